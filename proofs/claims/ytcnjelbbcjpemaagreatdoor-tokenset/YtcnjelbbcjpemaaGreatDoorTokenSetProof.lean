/-
  TokenSet: of any slice of ranges the law returns true, and its argument reads as it did. No condition but the card's own: the library's tables that the row lists lie as their text lays them (the card ties them); whether other code writes them is the translator's report; the seat is cut from a pruned copy of the project.
-/
import Derived.Test.YtcnjelbbcjpemaaGreatDoorTkSt
import Derived.Test.YtcnjelbbcjpemaaGreatDoorUtfAwake
import Derived.Laws.BitsLemmas
import Derived.Laws.Bits64
import Derived.Test.YtcnjelbbcjpemaaGreatDoorTkV
import Derived.Test.YtcnjelbbcjpemaaGreatDoorTkLaws
import Derived.Test.YtcnjelbbcjpemaaGreatDoorRgSame
import Derived.Deep.RegionHeld3
import Derived.ProofKit
import Derived.OpenShut
import Derived.Test.YtcnjelbbcjpemaaGreatDoorRows
import Derived.LaidMore
import Derived.ChangeSame
import Derived.Stop.Joined
import GoSem.PinnedTables
import Derived.Test.YtcnjelbbcjpemaaGreatDoorRgBase
import Derived.Deep.SlicePairs
import Derived.Test.YtcnjelbbcjpemaaGreatDoorTie
import Derived.Test.YtcnjelbbcjpemaaGreatDoorCards
import Derived.WalkKit
import Derived.ShutString
import Derived.ChangeOld
import Derived.Below
import Derived.SevenTiedAt
import Derived.ChangeMaps5
/- Contracts of the library's digits by sixteen (strconv.FormatInt), and of scalarText at every number. -/
namespace Go.Proofs.YtcnjelbbcjpemaaGreatDoor.T
open Go.RowKit
set_option linter.unusedVariables false
set_option linter.unusedSimpArgs false

/-- a number's digits by sixteen, with its sign -/
def fmt16 (n : Int) : List Int := if n < 0 then 45 :: sixF 15 (-n) else sixF 15 n
theorem six_more : ∀ (f g : Nat) (n : Int), 0 ≤ n → n < 16 ^ (f + 1) → f ≤ g → sixF g n = sixF f n := by
  intro f
  induction f with
  | zero =>
    intro g n h0 h1 hg
    have h1' : n < 16 := by simpa using h1
    cases g with
    | zero => rfl
    | succ g => simp only [sixF]; rw [if_pos h1']
  | succ f ih =>
    intro g n h0 h1 hg
    obtain ⟨k, rfl⟩ : ∃ k, g = k + 1 := ⟨g - 1, by omega⟩
    by_cases h : n < 16
    · simp only [sixF]; rw [if_pos h, if_pos h]
    · have h2 : n / 16 < 16 ^ (f + 1) := by
        have : (16 : Int) ^ (f + 1 + 1) = 16 ^ (f + 1) * 16 := Int.pow_succ _ _
        rw [this] at h1
        generalize (16 : Int) ^ (f + 1) = P at *
        omega
      simp only [sixF]
      rw [if_neg h, if_neg h, ih k (n / 16) (by omega) h2 (by omega)]
theorem six_bytes : ∀ (f : Nat) (n : Int), 0 ≤ n → n < 16 ^ (f + 1) → U.isBytes (sixF f n) := by
  intro f n h0 h1 z hz
  have := (six_ok f n h0 h1).1 z hz
  unfold valI isDig at this
  split at this
  · next c => simp at c; omega
  · split at this
    · omega
    · omega
theorem fmt_bytes {n : Int} (h : fits n) : U.isBytes (fmt16 n) ∧ (fmt16 n).length ≤ 17 := by
  unfold fits at h
  unfold fmt16
  split
  · have := six_ok 15 (-n) (by omega) (by omega)
    exact ⟨bytes_cons (by omega) (by omega) (six_bytes 15 (-n) (by omega) (by omega)), by rw [List.length_cons]; omega⟩
  · have := six_ok 15 n (by omega) (by omega)
    exact ⟨six_bytes 15 n (by omega) (by omega), by omega⟩
theorem and15u (n : Int) (h0 : 0 ≤ n) (h1 : n ≤ 18446744073709551615) : bits .and .u64 n 15 = n % 16 := by
  have h15 : (BitVec.ofInt 64 15).toNat = 2 ^ 4 - 1 := by decide
  have key : (BitVec.ofInt 64 n &&& BitVec.ofInt 64 15).toNat = (n % ((2 ^ 64 : Nat) : Int)).toNat % 2 ^ 4 := by
    rw [BitVec.toNat_and, BitVec.toNat_ofInt, h15, Nat.and_two_pow_sub_one_eq_mod]
  show IntKind.u64.wrap ((BitVec.ofInt 64 n &&& BitVec.ofInt 64 15).toNat : Nat) = n % 16
  rw [key]
  simp [IntKind.wrap, IntKind.bits, IntKind.signed]
  omega
abbrev d36 : ByteArray := ⟨#[48, 49, 50, 51, 52, 53, 54, 55, 56, 57, 97, 98, 99, 100, 101, 102, 103, 104, 105, 106, 107, 108, 109, 110, 111, 112, 113, 114, 115, 116, 117, 118, 119, 120, 121, 122]⟩
theorem ix36 (z : Int) (h0 : 0 ≤ z) (h1 : z < 16) : ∀ W, (Instr.index 9 (.string ⟨#[48, 49, 50, 51, 52, 53, 54, 55, 56, 57, 97, 98, 99, 100, 101, 102, 103, 104, 105, 106, 107, 108, 109, 110, 111, 112, 113, 114, 115, 116, 117, 118, 119, 120, 121, 122]⟩) (.int .u64 z)).run Tryz.prog W = .ok (.int .u8 (hexD z)) W := by
  intro W
  rw [run_index_string W 9 _ .u64 z Tryz.underlying9, dif_pos ⟨h0, by show z < ((36 : Nat) : Int); omega⟩]
  have h : z = 0 ∨ z = 1 ∨ z = 2 ∨ z = 3 ∨ z = 4 ∨ z = 5 ∨ z = 6 ∨ z = 7 ∨ z = 8 ∨ z = 9 ∨ z = 10 ∨ z = 11 ∨ z = 12 ∨ z = 13 ∨ z = 14 ∨ z = 15 := by omega
  rcases h with rfl | rfl | rfl | rfl | rfl | rfl | rfl | rfl | rfl | rfl | rfl | rfl | rfl | rfl | rfl | rfl <;> rfl
/-- the library's table of places of bits lies as its text says, where it is read -/
def Db (w : World) : Prop := w.cell? ⟨5, 15, none⟩ = some (.int .u8 4)
theorem Db.later {w w' : World} (h : Db w) (b : Below w.heap.size w w') : Db w' := by
  unfold Db at *
  rw [b.cell (block_lt' h)]
  exact h
set_option maxRecDepth 20000 in
set_option maxHeartbeats 2000000 in
theorem tz64_l (w : World) (h : Db w) : Calls Tryz.prog 157 #[.int .u64 16] w fun e w' => e = .returned (.int .i64 4) ∧ w' = w := by
  unfold Db at h
  have e1 : IntKind.u64.wrap (-16) = 18446744073709551600 := by decide
  have e2 : bits .and .u64 16 18446744073709551600 = 16 := by decide
  have e3 : IntKind.u64.wrap 4573923408821661840 = 4573923408821661840 := by decide
  go_enter Tryz.func157, Tryz.ntmps157
  go_wp2_with fail
  go_ret
  exact ⟨rfl, rfl⟩
set_option maxRecDepth 20000 in
set_option maxHeartbeats 2000000 in
theorem tz_l (w : World) (h : Db w) : Calls Tryz.prog 147 #[.int .u64 16] w fun e w' => e = .returned (.int .i64 4) ∧ w' = w := by
  have C := hideR (tz64_l w h)
  clear h
  go_enter Tryz.func147, Tryz.ntmps147
  go_wp2_with fail
  refine (unhideR C).mono ?_
  rintro e w1 ⟨rfl, hw1⟩
  obtain rfl : w = w1 := hw1.symm
  clear hw1 C
  go_wp2_with fail
  go_ret
  exact ⟨rfl, rfl⟩
set_option maxRecDepth 20000 in
set_option maxHeartbeats 2000000 in
theorem pow2_l (w : World) : Calls Tryz.prog 146 #[.int .i64 16] w fun e w' => e = .returned (.bool true) ∧ w' = w := by
  go_enter Tryz.func146, Tryz.ntmps146
  go_wp2_with fail
  go_ret
  exact ⟨rfl, rfl⟩

/-! ### formatBits -/
theorem six_step {f : Nat} {u : Int} (h : 16 ≤ u) (hb : u < 16 ^ (f + 1)) : ∃ g, f = g + 1 ∧ sixF f u = sixF g (u / 16) ++ [hexD (u % 16)] ∧ u / 16 < 16 ^ (g + 1) := by
  cases f with
  | zero => simp at hb; omega
  | succ g =>
    refine ⟨g, rfl, by simp only [sixF]; rw [if_neg (by omega)], ?_⟩
    have : (16 : Int) ^ (g + 1 + 1) = 16 ^ (g + 1) * 16 := Int.pow_succ _ _
    rw [this] at hb
    generalize (16 : Int) ^ (g + 1) = P at *
    omega
theorem six_last {f : Nat} {u : Int} (h : u < 16) : sixF f u = [hexD u] := by
  cases f with
  | zero => rfl
  | succ g => simp only [sixF]; rw [if_pos h]
theorem hexD_byte' {z : Int} (h0 : 0 ≤ z) (h1 : z < 16) : 0 ≤ hexD z ∧ hexD z ≤ 255 := by
  unfold hexD
  split <;> omega
/-- a block of 65 bytes of which the last ones are these -/
def Tl (w : World) (g : Nat) (m : Nat) (acc : List Int) : Prop := ∃ cs : Array Value, w.heap[g]? = some (.cells cs 161) ∧ cs.size = 65 ∧ m + acc.length = 65 ∧ cs.toList.drop m = acc.map (Value.int .u8)
theorem Tl.cell {w : World} {g m : Nat} {acc : List Int} (h : Tl w g (m + 1) acc) : ∃ v, w.cell? ⟨g, m, none⟩ = some v := by
  obtain ⟨cs, h1, h2, h3, h4⟩ := h
  refine ⟨cs[m]'(by omega), ?_⟩
  simp [World.cell?, h1]
theorem Tl.free {w : World} {g m : Nat} {acc : List Int} (h : Tl w g m acc) (k : Nat) : w.frozen? ⟨g, k, none⟩ = false := by
  obtain ⟨cs, h1, h2, h3, h4⟩ := h
  simp [World.frozen?, h1]
theorem Tl.put {w : World} {g m : Nat} {acc : List Int} (h : Tl w g (m + 1) acc) (x : Int) : Tl (w.setCell ⟨g, m, none⟩ (.int .u8 x)) g m (x :: acc) := by
  obtain ⟨cs, h1, h2, h3, h4⟩ := h
  refine ⟨cs.setIfInBounds m (.int .u8 x), heap_setCell_same w g m cs _ _ h1, by simp [h2], by rw [List.length_cons]; omega, ?_⟩
  have hm : m < (cs.toList.set m (Value.int .u8 x)).length := by simp; omega
  rw [Array.toList_setIfInBounds, List.drop_eq_getElem_cons hm, List.getElem_set_self, List.map_cons, List.drop_set, if_pos (by omega), h4]
/-- the bytes behind a place of it -/
theorem Tl.bs {w : World} {g m : Nat} {acc : List Int} (h : Tl w g m acc) (hb : U.isBytes acc) : Bs w (some ⟨g, m, none⟩) (65 - m) (65 - m) acc := by
  obtain ⟨cs, h1, h2, h3, h4⟩ := h
  refine ⟨by omega, Nat.le_refl _, by unfold maxLen; omega, hb, fun i hi => ⟨_, _, rfl, ?_⟩⟩
  have hi' : i < acc.length := by omega
  have e := congrArg (fun l => l[i]?) h4
  simp only [List.getElem?_drop, List.getElem?_map] at e
  rw [List.getElem?_eq_getElem hi'] at e
  simp only [Option.map_some, Array.getElem?_toList] at e
  simp only [World.cell?, h1, List.getD, List.getElem?_eq_getElem hi', Option.getD_some]
  exact e
theorem cut65 (g m : Nat) (h : m < 65) : ∀ W, (Instr.sliceAt 161 (.pointer (some ⟨g, 0, none⟩)) (some (.int .i64 (m : Int))) none none).run Tryz.prog W = .ok (.slice (some ⟨g, m, none⟩) (65 - m) (65 - m)) W := by
  intro W
  have ht : Tryz.prog.underlying 161 = some (.array (Tryz.prog.arrayLen 161) (Tryz.prog.elem 161)) := by kernel_rfl
  have al : Tryz.prog.arrayLen 161 = 65 := by kernel_rfl
  have sz : (sizeOf (Tryz.prog.elem 161)).run Tryz.prog W = .ok 1 W := by kernel_rfl
  rw [run_sliceAt_array_l W 161 _ ht .i64 (m : Int) (by omega) (by rw [al]; omega), sz, al]
  simp only [Result.andThen, slicedAt, Int.toNat_natCast]
  rw [if_neg (by omega), Nat.mul_one, Addr.add_lit, Nat.zero_add]
theorem Tl.new (w : World) : Tl (w.alloc (.cells Tryz.zeroCells161 161)) w.heap.size 65 [] :=
  ⟨Tryz.zeroCells161, heap_alloc_new w _, by kernel_rfl, rfl, by kernel_rfl⟩
set_option maxRecDepth 20000 in
set_option maxHeartbeats 4000000 in
theorem fbits_pos (M : Int) (h0 : 0 ≤ M) (h1 : M ≤ 9223372036854775807) (w : World) (hd : Db w) :
    Calls Tryz.prog 122 #[.slice none 0 0, .int .u64 M, .int .i64 16, .bool false, .bool false] w fun e w' => e = .returned (.tuple #[.slice none 0 0, .string (strOfNums (sixF 15 M))]) ∧ Below w.heap.size w w' := by
  have P2 := hideR pow2_l
  have TZ := hideR (fun W (hW : Below w.heap.size w W) => tz_l W (hd.later hW))
  clear hd
  have HS0 : Hid (sixF 15 M = sixF 15 M ++ []) := by show _ = _; simp
  have HU : Hid (M < 16 ^ (15 + 1)) := by show _ < _; omega
  generalize hSX : sixF 15 M = SX at *
  have HM := hideR hSX
  clear hSX
  go_enter Tryz.func122, Tryz.ntmps122
  go_wp2_with fail
  refine (unhideR P2 _).mono ?_
  rintro e w1 ⟨rfl, hw1⟩
  obtain rfl := hw1
  clear P2
  go_wp2_with fail
  refine (unhideR TZ _ (Below.new1 _)).mono ?_
  rintro e w1 ⟨rfl, hw1⟩
  obtain rfl := hw1
  clear TZ
  go_wp2_with fail
  go_loopw [1, 13] (fun u i wr => ∃ (f : Nat) (acc : List Int) (uv : Int) (m : Nat), 0 ≤ uv ∧ uv ≤ 18446744073709551615 ∧ Hid (uv < 16 ^ (f + 1)) ∧ f + acc.length = 15 ∧ m + acc.length = 65 ∧ Hid (SX = sixF f uv ++ acc) ∧ Hid (U.isBytes acc) ∧ u = .int .u64 uv ∧ i = .int .i64 (m : Int) ∧ Hid (Tl wr w.heap.size m acc) ∧ Below w.heap.size w wr) (fun u _ _ => (intOf u).toNat)
  case atStart => exact ⟨15, [], M, 65, by omega, by omega, HU, rfl, rfl, by show _ = _; rw [unhideR HM]; exact unhideR HS0, (fun z hz => by cases hz), rfl, rfl, Tl.new w, Below.new1 _⟩
  case round =>
    obtain ⟨f, acc, uv, m, u0, u1, hf, s1, s2, hE, hA, rfl, rfl, hT, hb⟩ := hrel
    by_cases c16 : 16 ≤ uv
    · obtain ⟨g, rfl, es, hlt⟩ := six_step c16 (unhideR hf)
      obtain ⟨m', rfl⟩ : ∃ k, m = k + 1 := ⟨m - 1, by omega⟩
      obtain ⟨v0, hv0⟩ := (unhideR hT).cell
      have fr := (unhideR hT).free m'
      have a1 := and15u uv u0 u1
      have i1 := ix36 (uv % 16) (by omega) (by omega)
      have hmm : m' < 65 := by omega
      have hmm2 : (m' : Int) < 65 := by omega
      have hX := hexD_byte' (z := uv % 16) (by omega) (by omega)
      have HX := hideR hX
      clear hX
      generalize hexD (uv % 16) = X at *
      have HES := hideR es
      have HLT := hideR hlt
      clear es hlt hf
      go_wp2_with fail
      go_roundw
      case rel => exact ⟨g, X :: acc, uv / 16, m', by omega, by omega, HLT, by rw [List.length_cons]; omega, by rw [List.length_cons]; omega, by show _ = _; rw [unhideR hE, unhideR HES]; simp, bytes_cons (unhideR HX).1 (unhideR HX).2 (unhideR hA), rfl, rfl, (unhideR hT).put X, hb.setCell (Nat.le_refl _) _⟩
      case measure => simp only [intOf]; omega
    · have c17 : uv < 16 := by omega
      have e1 : SX = hexD uv :: acc := by rw [unhideR hE, six_last c17]; rfl
      obtain ⟨m', rfl⟩ : ∃ k, m = k + 1 := ⟨m - 1, by omega⟩
      obtain ⟨v0, hv0⟩ := (unhideR hT).cell
      have fr := (unhideR hT).free m'
      have i1 := ix36 uv u0 c17
      have hmm : m' < 65 := by omega
      have hmm2 : (m' : Int) < 65 := by omega
      have hX := hexD_byte' (z := uv) u0 c17
      have ab : U.isBytes (hexD uv :: acc) := bytes_cons hX.1 hX.2 (unhideR hA)
      have T1 := (unhideR hT).put (hexD uv)
      have cv := (T1.bs ab).str
      have B1 : Below w.heap.size w (wr.setCell ⟨w.heap.size, m', none⟩ (.int .u8 (hexD uv))) := hb.setCell (Nat.le_refl _) _
      rw [← e1] at cv
      have sl := cut65 w.heap.size m' hmm
      generalize hexD uv = X at *
      clear HM HS0 HU hf hE hA hT ab T1 hX e1
      go_wp2_with fail
      go_ret2
      exact ⟨rfl, B1⟩
set_option maxRecDepth 20000 in
set_option maxHeartbeats 4000000 in
theorem fbits_neg (M : Int) (h0 : 1 ≤ M) (h1 : M ≤ 9223372036854775808) (w : World) (hd : Db w) :
    Calls Tryz.prog 122 #[.slice none 0 0, .int .u64 (18446744073709551616 - M), .int .i64 16, .bool true, .bool false] w fun e w' => e = .returned (.tuple #[.slice none 0 0, .string (strOfNums (45 :: sixF 15 M))]) ∧ Below w.heap.size w w' := by
  have P2 := hideR pow2_l
  have TZ := hideR (fun W (hW : Below w.heap.size w W) => tz_l W (hd.later hW))
  clear hd
  have HS0 : Hid (sixF 15 M = sixF 15 M ++ []) := by show _ = _; simp
  have HU : Hid (M < 16 ^ (15 + 1)) := by show _ < _; omega
  have n1 : IntKind.u64.wrap (-(18446744073709551616 - M)) = M := by simp [IntKind.wrap, IntKind.bits, IntKind.signed]; omega
  have n2 : IntKind.u64.wrap (M - 18446744073709551616) = M := by simp [IntKind.wrap, IntKind.bits, IntKind.signed]; omega
  generalize hSX : sixF 15 M = SX at *
  have HM := hideR hSX
  clear hSX
  go_enter Tryz.func122, Tryz.ntmps122
  go_wp2_with fail
  refine (unhideR P2 _).mono ?_
  rintro e w1 ⟨rfl, hw1⟩
  obtain rfl := hw1
  clear P2
  go_wp2_with fail
  refine (unhideR TZ _ (Below.new1 _)).mono ?_
  rintro e w1 ⟨rfl, hw1⟩
  obtain rfl := hw1
  clear TZ
  go_wp2_with fail
  go_loopw [1, 13] (fun u i wr => ∃ (f : Nat) (acc : List Int) (uv : Int) (m : Nat), 0 ≤ uv ∧ uv ≤ 18446744073709551615 ∧ Hid (uv < 16 ^ (f + 1)) ∧ f + acc.length = 15 ∧ m + acc.length = 65 ∧ Hid (SX = sixF f uv ++ acc) ∧ Hid (U.isBytes acc) ∧ u = .int .u64 uv ∧ i = .int .i64 (m : Int) ∧ Hid (Tl wr w.heap.size m acc) ∧ Below w.heap.size w wr) (fun u _ _ => (intOf u).toNat)
  case atStart => exact ⟨15, [], M, 65, by omega, by omega, HU, rfl, rfl, by show _ = _; rw [unhideR HM]; exact unhideR HS0, (fun z hz => by cases hz), rfl, rfl, Tl.new w, Below.new1 _⟩
  case round =>
    obtain ⟨f, acc, uv, m, u0, u1, hf, s1, s2, hE, hA, rfl, rfl, hT, hb⟩ := hrel
    by_cases c16 : 16 ≤ uv
    · obtain ⟨g, rfl, es, hlt⟩ := six_step c16 (unhideR hf)
      obtain ⟨m', rfl⟩ : ∃ k, m = k + 1 := ⟨m - 1, by omega⟩
      obtain ⟨v0, hv0⟩ := (unhideR hT).cell
      have fr := (unhideR hT).free m'
      have a1 := and15u uv u0 u1
      have i1 := ix36 (uv % 16) (by omega) (by omega)
      have hmm : m' < 65 := by omega
      have hmm2 : (m' : Int) < 65 := by omega
      have hX := hexD_byte' (z := uv % 16) (by omega) (by omega)
      have HX := hideR hX
      clear hX
      generalize hexD (uv % 16) = X at *
      have HES := hideR es
      have HLT := hideR hlt
      clear es hlt hf
      go_wp2_with fail
      go_roundw
      case rel => exact ⟨g, X :: acc, uv / 16, m', by omega, by omega, HLT, by rw [List.length_cons]; omega, by rw [List.length_cons]; omega, by show _ = _; rw [unhideR hE, unhideR HES]; simp, bytes_cons (unhideR HX).1 (unhideR HX).2 (unhideR hA), rfl, rfl, (unhideR hT).put X, hb.setCell (Nat.le_refl _) _⟩
      case measure => simp only [intOf]; omega
    · have c17 : uv < 16 := by omega
      have e1 : SX = hexD uv :: acc := by rw [unhideR hE, six_last c17]; rfl
      obtain ⟨m', rfl⟩ : ∃ k, m = k + 1 := ⟨m - 1, by omega⟩
      obtain ⟨v0, hv0⟩ := (unhideR hT).cell
      have fr := (unhideR hT).free m'
      have i1 := ix36 uv u0 c17
      have hmm : m' < 65 := by omega
      have hmm2 : (m' : Int) < 65 := by omega
      have hX := hexD_byte' (z := uv) u0 c17
      have ab : U.isBytes (hexD uv :: acc) := bytes_cons hX.1 hX.2 (unhideR hA)
      have T1 := (unhideR hT).put (hexD uv)
      obtain ⟨m2, rfl⟩ : ∃ k, m' = k + 1 := ⟨m' - 1, by omega⟩
      obtain ⟨v1, hv1⟩ := T1.cell
      have fr1 := T1.free m2
      have T2 := T1.put 45
      have cv := (T2.bs (bytes_cons (by omega) (by omega) ab)).str
      have B0 : Below w.heap.size w (wr.setCell ⟨w.heap.size, m2 + 1, none⟩ (.int .u8 (hexD uv))) := hb.setCell (Nat.le_refl _) _
      have B1 : Below w.heap.size w ((wr.setCell ⟨w.heap.size, m2 + 1, none⟩ (.int .u8 (hexD uv))).setCell ⟨w.heap.size, m2, none⟩ (.int .u8 45)) := B0.setCell (Nat.le_refl _) _
      rw [← e1] at cv
      have sl := cut65 w.heap.size m2 (by omega)
      have hm3 : (m2 : Int) < 65 := by omega
      generalize hexD uv = X at *
      clear HM HS0 HU hf hE hA hT ab T1 T2 hX e1
      go_wp2_with fail
      go_ret2
      exact ⟨rfl, B1⟩

/-! ### FormatInt -/
set_option maxRecDepth 20000 in
set_option maxHeartbeats 2000000 in
theorem fi_pos (M : Int) (h0 : 0 ≤ M) (h1 : M ≤ 9223372036854775807) (w : World) (hd : Db w) :
    Calls Tryz.prog 105 #[.int .i64 M, .int .i64 16] w fun e w' => e = .returned (.string (strOfNums (sixF 15 M))) ∧ Below w.heap.size w w' := by
  have C := hideR (fbits_pos M h0 h1 w hd)
  clear hd
  generalize strOfNums (sixF 15 M) = X at *
  have n1 : IntKind.u64.wrap M = M := by simp [IntKind.wrap, IntKind.bits, IntKind.signed]; omega
  have n2 : ¬ (M < 0) := by omega
  go_enter Tryz.func105, Tryz.ntmps105
  go_wp2_with fail
  refine (unhideR C).mono ?_
  rintro e w1 ⟨rfl, b1⟩
  clear C
  go_wp2_with fail
  go_ret
  exact ⟨rfl, b1⟩
set_option maxRecDepth 20000 in
set_option maxHeartbeats 2000000 in
theorem fi_neg (M : Int) (h0 : 1 ≤ M) (h1 : M ≤ 9223372036854775808) (w : World) (hd : Db w) :
    Calls Tryz.prog 105 #[.int .i64 (-M), .int .i64 16] w fun e w' => e = .returned (.string (strOfNums (45 :: sixF 15 M))) ∧ Below w.heap.size w w' := by
  have C := hideR (fbits_neg M h0 h1 w hd)
  clear hd
  generalize strOfNums (45 :: sixF 15 M) = X at *
  have n1 : IntKind.u64.wrap (-M) = 18446744073709551616 - M := by simp [IntKind.wrap, IntKind.bits, IntKind.signed]; omega
  have n2 : -M < 0 := by omega
  have n3 : 0 < M := by omega
  go_enter Tryz.func105, Tryz.ntmps105
  go_wp2_with fail
  refine (unhideR C).mono ?_
  rintro e w1 ⟨rfl, b1⟩
  clear C
  go_wp2_with fail
  go_ret
  exact ⟨rfl, b1⟩
set_option maxRecDepth 20000 in
set_option maxHeartbeats 2000000 in
theorem fmt_pos (M : Int) (h0 : 0 ≤ M) (h1 : M ≤ 9223372036854775807) (w : World) (hd : Db w) :
    Calls Tryz.prog 82 #[.int .i64 M, .int .i64 16] w fun e w' => e = .returned (.string (strOfNums (sixF 15 M))) ∧ Below w.heap.size w w' := by
  have C := hideR (fi_pos M h0 h1 w hd)
  clear hd
  generalize strOfNums (sixF 15 M) = X at *
  go_enter Tryz.func82, Tryz.ntmps82
  go_wp2_with fail
  refine (unhideR C).mono ?_
  rintro e w1 ⟨rfl, b1⟩
  clear C
  go_wp2_with fail
  go_ret
  exact ⟨rfl, b1⟩
set_option maxRecDepth 20000 in
set_option maxHeartbeats 2000000 in
theorem fmt_neg (M : Int) (h0 : 1 ≤ M) (h1 : M ≤ 9223372036854775808) (w : World) (hd : Db w) :
    Calls Tryz.prog 82 #[.int .i64 (-M), .int .i64 16] w fun e w' => e = .returned (.string (strOfNums (45 :: sixF 15 M))) ∧ Below w.heap.size w w' := by
  have C := hideR (fi_neg M h0 h1 w hd)
  clear hd
  generalize strOfNums (45 :: sixF 15 M) = X at *
  go_enter Tryz.func82, Tryz.ntmps82
  go_wp2_with fail
  refine (unhideR C).mono ?_
  rintro e w1 ⟨rfl, b1⟩
  clear C
  go_wp2_with fail
  go_ret
  exact ⟨rfl, b1⟩
/-- a number's digits by sixteen, whatever it is -/
theorem fmt_l (n : Int) (h : fits n) (w : World) (hd : Db w) :
    Calls Tryz.prog 82 #[.int .i64 n, .int .i64 16] w fun e w' => e = .returned (.string (strOfNums (fmt16 n))) ∧ Below w.heap.size w w' := by
  unfold fits at h
  unfold fmt16
  split
  · have := fmt_neg (-n) (by omega) (by omega) w hd
    rw [Int.neg_neg] at this
    exact this
  · exact fmt_pos n (by omega) (by omega) w hd
end Go.Proofs.YtcnjelbbcjpemaaGreatDoor.T

/- Plain mathematics of layer 5: a number's digits by sixteen, whatever the number; what may be, told by what is written. -/
namespace Go.Proofs.YtcnjelbbcjpemaaGreatDoor.T
open Go.RowKit
set_option linter.unusedVariables false
set_option linter.unusedSimpArgs false

/-- an end of a class's items, whatever the number -/
def shA (n : Int) : List Int := if plainB n then [n] else 92 :: 117 :: (fmt16 n ++ [59])
theorem shA_may {n : Int} (h : U.mayB n = true) : shA n = showO false n := by
  have hn := (U.may_iff n).1 h
  unfold shA showO
  rw [if_neg (by simp : ¬ (false = true))]
  split
  · rfl
  · unfold fmt16 sixL
    rw [if_neg (by omega), six_more 5 15 n (by omega) (by omega) (by omega)]
theorem shA_bytes {n : Int} (h : fits n) : U.isBytes (shA n) ∧ (shA n).length ≤ 100 := by
  obtain ⟨f1, f2⟩ := fmt_bytes h
  unfold shA
  split
  · next c =>
    have := plain_iff.1 c
    exact ⟨bytes_cons (by omega) (by omega) (fun y hy => by cases hy), by simp⟩
  · exact ⟨bytes_cons (by omega) (by omega) (bytes_cons (by omega) (by omega) (bytes_app f1 (bytes_cons (by omega) (by omega) (fun y hy => by cases hy)))), by simp; omega⟩
theorem flat_eq {α : Type} {f g : α → List Int} : ∀ {l : List α}, (∀ x ∈ l, f x = g x) → l.flatMap f = l.flatMap g := by
  intro l
  induction l with
  | nil => intro _; rfl
  | cons x l ih => intro h; rw [List.flatMap_cons, List.flatMap_cons, h x (List.mem_cons_self ..), ih fun y hy => h y (List.mem_cons_of_mem _ hy)]
theorem parts_wr {t : Tk} (h : partsB t = true) : wrL shA t = textL t := by
  obtain ⟨k, x, R⟩ := t
  unfold partsB at h
  simp only [Bool.and_eq_true, decide_eq_true_eq, List.all_eq_true, Bool.or_eq_true] at h
  obtain ⟨⟨⟨h0, h5⟩, hm⟩, ha⟩ := h
  unfold wrL textL
  simp only
  by_cases c0 : k = 0
  · subst c0; simp
  by_cases c4 : k = 4
  · subst c4; simp
  rw [if_neg (by omega)]
  by_cases c5 : k = 5
  · subst c5; simp
  rw [if_neg c5, if_neg c5]
  by_cases c1 : k = 1
  · subst c1; simp
  rw [if_neg c1, if_neg c1]
  by_cases c2 : k = 2
  · subst c2
    rw [if_pos rfl, if_pos rfl]
    have : R.flatMap (showR shA) = R.flatMap (showI false) := flat_eq fun r hr => by
      obtain ⟨q1, -⟩ := ha r hr
      rcases q1 with q1 | ⟨q1, q2⟩
      · exact absurd rfl q1
      · unfold showR showI
        rw [shA_may q1, shA_may q2]
    rw [this]; rfl
  rw [if_neg c2, if_neg c2]
  obtain rfl : k = 3 := by omega
  rw [if_pos rfl, if_pos rfl]
  have : R.flatMap (showR hexT) = R.flatMap (showI true) := flat_eq fun r hr => by
    obtain ⟨-, q1⟩ := ha r hr
    have hb := G.may_mem hm hr
    rcases q1 with q1 | q1
    · exact absurd rfl q1
    · unfold showR showI showO
      rw [hexT_is (by omega) (by omega), hexT_is (by omega) (by omega)]
      rfl
  rw [this]; rfl
theorem one_of {t : Tk} {x : Sum (Nat × Int) (List (Tk × Nat))} (h : oneB t x = true) : ∃ p, x = .inr [(t, p)] := by
  unfold oneB at h
  split at h
  · next u p => rw [decide_eq_true_eq] at h; subst h; exact ⟨p, rfl⟩
  · cases h
theorem mayL_one (t : Tk) : mayL t = (partsB t && oneB t (allL (textL t))) := rfl
theorem mayW_all {t : Tk} (hb : U.isBytes (wrL shA t)) : mayW shA t = mayL t := by
  rw [mayL_one]
  unfold mayW
  cases hp : partsB t with
  | true => rw [parts_wr hp]; rfl
  | false =>
    rw [Bool.false_and]
    cases hm : oneB t (allL (wrL shA t)) with
    | false => rfl
    | true =>
      obtain ⟨p, e⟩ := one_of hm
      have := parts_ok (allL_ok hb e (t, p) (List.mem_singleton.2 rfl))
      rw [hp] at this
      cases this
theorem txtW_all {t : Tk} (hb : U.isBytes (wrL shA t)) : txtW shA t = if mayL t then textL t else [] := by
  unfold txtW
  rw [mayW_all hb]
  cases hm : mayL t with
  | false => rfl
  | true =>
    rw [mayL_one, Bool.and_eq_true] at hm
    rw [if_pos rfl, if_pos rfl, parts_wr hm.1]
/-- a token's text, nothing if it may not be -/
def txtL (t : Tk) : List Int := if mayL t then textL t else []

/-! ### scalarText at every number -/
theorem plain_no {n : Int} (h : plainB n = false) : seenB n = false ∨ (seenB n = true ∧ U.mayB n = true ∧ standB n = false) := by
  cases hs : seenB n with
  | false => exact .inl rfl
  | true =>
    have h1 : 32 ≤ n ∧ n ≤ 126 := by unfold seenB at hs; simp at hs; exact hs
    refine .inr ⟨rfl, (U.may_iff n).2 (by omega), ?_⟩
    cases hc : standB n with
    | false => rfl
    | true =>
      exfalso
      have : plainB n = true := by
        rw [plain_iff]
        simp [standB, clsB] at hc
        omega
      rw [h] at this
      cases this
set_option maxRecDepth 20000 in
set_option maxHeartbeats 2000000 in
theorem scalarT_l (n : Int) (h : fits n) (w : World) (hd : Db w) :
    Calls Tryz.prog 54 #[.int .i64 n] w fun e w' => e = .returned (.string (strOfNums (shA n))) ∧ Below w.heap.size w w' := by
  cases hp : plainB n with
  | true =>
    have : shA n = [n] := by unfold shA; rw [hp]; rfl
    rw [this]
    exact scalarT_plain n hp w
  | false =>
    obtain ⟨fb, fl⟩ := fmt_bytes h
    have es : shA n = ([92, 117] ++ fmt16 n) ++ [59] := by unfold shA; rw [hp]; simp
    have st_bu : St ⟨#[92, 117]⟩ [92, 117] := ⟨rfl, by intro z hz; simp at hz; omega⟩
    have st_se : St ⟨#[59]⟩ [59] := ⟨rfl, by intro z hz; simp at hz; omega⟩
    rw [es, ← (St.app (St.app st_bu (St.of fb)) st_se).1]
    have zf : (strOfNums (fmt16 n)).size ≤ 17 := by rw [strOfNums_size]; exact fl
    have CF := hideR (fun W (bW : Below w.heap.size w W) => fmt_l n h W (hd.later bW))
    have C1 := hideR (isSeen_l n h.1 h.2)
    clear hd es st_bu st_se fb fl
    generalize strOfNums (fmt16 n) = X at *
    rcases plain_no hp with hs | ⟨hs, hm, hc⟩
    · rw [hs] at C1
      clear h hp hs
      go_enter Tryz.func54, Tryz.ntmps54
      go_wp2_with fail
      refine (unhideR C1 _).mono ?_
      rintro e w1 ⟨rfl, hw1⟩
      obtain rfl : w = w1 := hw1.symm
      clear hw1 C1
      go_wp2_with fail
      refine (unhideR CF _ (Below.refl _ _)).mono ?_
      rintro e w2 ⟨rfl, b2⟩
      clear CF
      go_wp2_with fail
      go_ret
      exact ⟨rfl, b2⟩
    · have C2 := hideR (fun W => standsInClass_l n (.inr hm) W)
      rw [hs] at C1
      rw [hc] at C2
      clear h hp hs hm hc
      go_enter Tryz.func54, Tryz.ntmps54
      go_wp2_with fail
      refine (unhideR C1 _).mono ?_
      rintro e w1 ⟨rfl, hw1⟩
      obtain rfl : w = w1 := hw1.symm
      clear hw1 C1
      go_wp2_with fail
      refine (unhideR C2 _).mono ?_
      rintro e w2 ⟨rfl, b2⟩
      clear C2
      go_wp2_with fail
      refine (unhideR CF _ b2).mono ?_
      rintro e w3 ⟨rfl, b3⟩
      clear CF
      go_wp2_with fail
      go_ret
      exact ⟨rfl, bthen b2 b3⟩
/-- ends of whatever ranges, where the library's table lies -/
theorem ender_any (w : World) (hd : Db w) (R : List (Int × Int)) (h : ∀ r ∈ R, fits r.1 ∧ fits r.2) : Enders w shA R :=
  ⟨fits, fun n hn => shA_bytes hn, h, fun n hn W bW => scalarT_l n hn W (hd.later bW)⟩
end Go.Proofs.YtcnjelbbcjpemaaGreatDoor.T

/- Plain mathematics of layer 5: which errors All tells. -/
namespace Go.Proofs.YtcnjelbbcjpemaaGreatDoor.T
set_option linter.unusedSimpArgs false
set_option linter.unusedVariables false

theorem allF_err : ∀ (f a c : Nat) (r : List Int) (e : Nat × Int), allF f a c r = .inl e → e.2 = 2 ∨ e.2 = 7 := by
  intro f
  induction f with
  | zero => intro a c r e h; cases h
  | succ f ih =>
    intro a c r e h
    unfold allF at h
    split at h
    · cases h
    · split at h
      · exact ih _ _ _ _ h
      · split at h
        · injection h with h; subst h; exact .inl rfl
        · split at h
          · injection h with h; subst h; exact .inr rfl
          · split at h
            · next e' he => injection h with h; subst h; exact ih _ _ _ _ he
            · cases h
theorem allL_err {s : List Int} {p : Nat} {er : Int} (h : allL s = .inl (p, er)) : er = 2 ∨ er = 7 := by
  unfold allL at h
  split at h
  · injection h with h; injection h with h1 h2; exact .inr h2.symm
  · exact allF_err _ _ _ _ _ h
theorem nl_app (s t : List Int) : (s ++ [10, 32]) ++ t = s ++ 10 :: 32 :: t := by simp
/-- the i-th token of both: of the first text, or of the second one, as much further -/
theorem both_at (a b : List (Tk × Nat)) (d i : Nat) : (a ++ b.map fun p => (p.1, p.2 + d))[i]? = if i < a.length then a[i]? else (b[i - a.length]?).map fun p => (p.1, p.2 + d) := by
  split
  · next h => rw [List.getElem?_append_left h]
  · next h => rw [List.getElem?_append_right (by omega), List.getElem?_map]
theorem allF_place : ∀ (f a c : Nat) (r : List Int) (e : Nat × Int), U.isBytes r → allF f a c r = .inl e → e.1 ≤ a + r.length := by
  intro f
  induction f with
  | zero => intro a c r e _ h; cases h
  | succ f ih =>
    intro a c r e hb h
    unfold allF at h
    split at h
    · cases h
    · next hr =>
      have hl : 0 < r.length := by cases r <;> simp_all
      split at h
      · have := ih _ _ _ _ (fun z hz => hb z (List.mem_of_mem_drop hz)) h
        rw [List.length_drop] at this
        omega
      · split at h
        · injection h with h; subst h; simp
        · next t n ht =>
          have hn := (tok_ok hb ht).2.2
          split at h
          · injection h with h; subst h; simp
          · split at h
            · next e' he =>
              injection h with h; subst h
              have := ih _ _ _ _ (fun z hz => hb z (List.mem_of_mem_drop hz)) he
              rw [List.length_drop] at this
              omega
            · cases h
theorem allL_place {s : List Int} (hb : U.isBytes s) {p : Nat} {er : Int} (h : allL s = .inl (p, er)) : p ≤ s.length := by
  unfold allL at h
  split at h
  · injection h with h; injection h with h1 h2; omega
  · have := allF_place _ _ _ _ _ hb h
    simpa using this
theorem allF_at : ∀ (f a c : Nat) (r : List Int) (l : List (Tk × Nat)), U.isBytes r → allF f a c r = .inr l → ∀ p ∈ l, p.2 ≤ a + r.length := by
  intro f
  induction f with
  | zero => intro a c r l _ h p hp; injection h with h; subst h; cases hp
  | succ f ih =>
    intro a c r l hb h p hp
    unfold allF at h
    split at h
    · injection h with h; subst h; cases hp
    · next hr =>
      have hl : 0 < r.length := by cases r <;> simp_all
      split at h
      · have := ih _ _ _ _ (fun z hz => hb z (List.mem_of_mem_drop hz)) h p hp
        rw [List.length_drop] at this
        omega
      · split at h
        · cases h
        · next t n ht =>
          have hn := (tok_ok hb ht).2.2
          split at h
          · cases h
          · split at h
            · cases h
            · next l' he =>
              injection h with h; subst h
              rcases List.mem_cons.1 hp with rfl | hp
              · simp
              · have := ih _ _ _ _ (fun z hz => hb z (List.mem_of_mem_drop hz)) he p hp
                rw [List.length_drop] at this
                omega
theorem allL_at {s : List Int} (hb : U.isBytes s) {l : List (Tk × Nat)} (h : allL s = .inr l) : ∀ p ∈ l, p.2 ≤ s.length := by
  unfold allL at h
  split at h
  · cases h
  · intro p hp
    have := allF_at _ _ _ _ _ hb h p hp
    simpa using this
end Go.Proofs.YtcnjelbbcjpemaaGreatDoor.T

/- The walk of TokenSet. -/
namespace Go.Proofs.YtcnjelbbcjpemaaGreatDoor.T
open Go.RowKit
set_option linter.unusedVariables false
set_option linter.unusedSimpArgs false

theorem set_same {L A B : List (Int × Int)} (hA : G.Is A (notP L 1114111)) (hB : G.Is B (fun n => nrm A n && !nrm [(55296, 57343)] n)) : sameB (classL true L) B = true := by
  have : classL true L = B := (class_is true L).unique hB (fun n => by
    simp only [if_true]
    rw [nrm_surr, may_dom]
    unfold nrm
    rw [hA.2]
    unfold notP nrm
    have e3 : G.hasB [(0, 1114111)] n = G.dom n := G.hasB_one _ _ _
    rw [e3]
    cases G.dom n <;> cases (decide (55296 ≤ n) && decide (n ≤ 57343)) <;> cases G.hasB L n <;> rfl)
  rw [this]
  show decide (B = B) = true
  simp
set_option maxRecDepth 20000 in
set_option maxHeartbeats 8000000 in
theorem tokenSet_walk (a : Option Addr) (len cap : Nat) (L : List (Int × Int)) (w : World) (h : Rs w a len cap L) (hd : Db w) :
    Calls Tryz.prog 6 #[.slice a len cap] w fun e w' => e = .returned (.bool true) ∧ Below w.heap.size w w' := by
  have CU := hideR (awake5_any w)
  obtain rfl := h.hlen
  have e0 : strOfNums [] = ⟨#[]⟩ := rfl
  by_cases big : 20 < L.length
  · have t1 : (20 : Int) < (L.length : Int) := by omega
    clear h hd
    go_enter Tryz.func6, Tryz.ntmps6
    go_wp2_with fail
    refine (unhideR CU).mono ?_
    rintro e w1 ⟨rfl, b1⟩
    clear CU
    go_wp2_with fail
    go_ret
    exact ⟨rfl, bthen b1 (Below.new1 _)⟩
  have t1 : (L.length : Int) ≤ 20 := by omega
  have TA : ∀ W, Below w.heap.size w W → TokA W (2, [], L) a cap := fun W bW => ⟨by unfold fits; omega, (fun z hz => by cases hz), by simp, Rs.later h bW (Nat.le_refl _), by simp only; omega⟩
  have EN : ∀ W, Below w.heap.size w W → Enders W shA L := fun W bW => ender_any W (hd.later bW) L h.hfit
  have wb := (wr_bytes (t := (2, [], L)) (fun z hz => by cases hz) (by simp) (by simp only; omega) (EN w (Below.refl _ _))).1
  have CM := hideR (fun W (bW : Below w.heap.size w W) => may_l shA (2, [], L) a cap 0 W (TA W bW) (EN W bW))
  have CT := hideR (fun W (bW : Below w.heap.size w W) => text_l shA (2, [], L) a cap 0 W (TA W bW) (EN W bW))
  rw [mayW_all wb] at CM
  rw [txtW_all wb] at CT
  unfold tokAgg at CM CT
  simp only [e0] at CM CT
  cases hm : mayL (2, [], L) with
  | false =>
    rw [hm] at CM
    clear CT TA EN wb h hd hm
    go_enter Tryz.func6, Tryz.ntmps6
    go_wp2_with fail
    refine (unhideR CU).mono ?_
    rintro e w1 ⟨rfl, b1⟩
    clear CU
    go_wp2_with fail
    refine (unhideR CM _ (bthen b1 (Below.new1 _))).mono ?_
    rintro e w2 ⟨rfl, b2⟩
    clear CM
    go_wp2_with fail
    go_ret
    exact ⟨rfl, bthen (bthen b1 (Below.new1 _)) b2⟩
  | true =>
    rw [hm] at CM CT
    rw [if_pos rfl] at CT
    have hp : partsB (2, [], L) = true := by rw [mayL_one, Bool.and_eq_true] at hm; exact hm.1
    rw [parts_wr hp] at wb
    obtain ⟨ok, tl⟩ := (may_iff wb).1 hm
    have hmB : G.mayB L = true := by
      rcases ok with h | h | h | h | h | h
      · exact absurd h.1 (by simp)
      · exact absurd h.1 (by simp)
      · exact absurd h.1 (by simp)
      · exact absurd h.1 (by simp)
      · exact absurd h.1 (by simp)
      · exact h.2.2.1
    have cs := class_short L
    have ha := hat_all ok (by omega)
    have eT : textL (2, [], L) = 91 :: (L.flatMap (showI false) ++ [93]) := rfl
    have eY : strOfNums ((textL (2, [], L)).drop 1) = (strOfNums (textL (2, [], L))).extract 1 (strOfNums (textL (2, [], L))).size := by
      rw [(St.of wb).sub 1 _, List.take_of_length_le (by rw [strOfNums_size, List.length_drop]; exact Nat.le_refl _)]
    have st_ho : St ⟨#[91, 94]⟩ [91, 94] := ⟨rfl, by intro z hz; simp at hz; omega⟩
    have tb : U.isBytes ((textL (2, [], L)).drop 1) := fun z hz => wb z (List.mem_of_mem_drop hz)
    have eA : [91, 94] ++ (textL (2, [], L)).drop 1 = 91 :: 94 :: (L.flatMap (showI false) ++ [93]) := by rw [eT]; rfl
    have CA := hideR (fun W => all_l _ _ (St.app st_ho (St.of tb)) (by rw [List.length_append, List.length_drop]; simp only [List.length_cons, List.length_nil]; omega) W)
    rw [eA, eY] at CA
    have sz1 : (strOfNums (textL (2, [], L))).size ≤ 1000 := by rw [strOfNums_size]; omega
    have sz2 : 2 ≤ (strOfNums (textL (2, [], L))).size := by rw [strOfNums_size, eT]; simp
    have sz3 : ¬ (((strOfNums (textL (2, [], L))).size : Int) < 2) := by omega
    have CV := hideR (fun W (bW : Below w.heap.size w W) => rgMay_any a L.length cap L W (Rs.later h bW (Nat.le_refl _)))
    rw [hmB] at CV
    have CN := hideR (fun W (bW : Below w.heap.size w W) => rgNot_any a L.length cap L 1114111 W (Rs.later h bW (Nat.le_refl _)) (by omega) (by unfold fits; omega))
    have CL := hideR rgLess_any
    have CS := hideR rgSame_any
    have HA := hideR ha
    clear TA EN wb h hd hm hp ok tl hmB cs ha eT st_ho tb eA eY
    generalize hHL : 91 :: 94 :: (L.flatMap (showI false) ++ [93]) = HL at *
    have HHL := hideR hHL
    clear hHL
    generalize strOfNums (textL (2, [], L)) = X at *
    go_enter Tryz.func6, Tryz.ntmps6
    go_wp2_with fail
    refine (unhideR CU).mono ?_
    rintro e w1 ⟨rfl, b1⟩
    clear CU
    go_wp2_with fail
    refine (unhideR CM _ (bthen b1 (Below.new1 _))).mono ?_
    rintro e w2 ⟨rfl, b2⟩
    clear CM
    obtain ⟨q0, q1, q2, q3⟩ := (cells4 (kept_new b2)).1
    have B2 := bthen (bthen b1 (Below.new1 _)) b2
    go_wp2_with fail
    refine (unhideR CT _ B2).mono ?_
    rintro e w3 ⟨rfl, b3⟩
    clear CT q0 q1 q2 q3
    have B3 := bthen B2 b3
    go_wp2_with fail
    refine (unhideR CV _ B3).mono ?_
    rintro e w4 ⟨rfl, b4⟩
    clear CV
    have B4 := bthen B3 b4
    go_wp2_with fail
    refine (unhideR CA _).mono ?_
    rintro e w5 ⟨ar, b5⟩
    clear CA
    have B5 := bthen B4 b5
    rcases ar with ⟨pa, er, ea, rfl⟩ | ⟨ts, v, ea, rfl, tk⟩
    · rw [unhideR HA] at ea; cases ea
    obtain rfl : ts = [((2, [], classL true L), 0)] := by rw [unhideR HA] at ea; injection ea with ea; exact ea.symm
    obtain ⟨g, cp, a', c', rfl, g1, g2, g3, y0, y1, y2, y3, hr0⟩ := tks_at tk (i := 0) rfl
    simp only [Nat.mul_zero, Nat.zero_add, List.length_singleton] at g1 y0 y1 y2 y3
    have gl := block_lt' y0
    have f553 : fits 55296 := by unfold fits; omega
    have f573 : fits 57343 := by unfold fits; omega
    have HR0 := hideR hr0
    clear tk HA HHL ea y0 y1 y3 hr0
    go_wp2_with fail
    go_region_held3 (fun w' => w'.cell? ⟨g, 2, none⟩ = some (.slice a' (classL true L).length c'))
      (first
        | exact y2
        | (refine (b8.cell ?_).trans ?_; (exact block_lt' (o := 2) (v := .slice a' (classL true L).length c') (by assumption)); assumption)
        | (refine (b7.cell ?_).trans ?_; (exact block_lt' (o := 2) (v := .slice a' (classL true L).length c') (by assumption)); assumption)
        | (refine (b6.cell ?_).trans ?_; (exact block_lt' (o := 2) (v := .slice a' (classL true L).length c') (by assumption)); assumption)
        | (refine ((Below.new1 _).cell ?_).trans ?_; (exact block_lt' (o := 2) (v := .slice a' (classL true L).length c') (by assumption)); assumption))
      (first
        | (go_at_call 22; refine (unhideR CN _ ?_).mono ?_; (first | exact B5.trans draws_b | exact bthen (B5.trans draws_b) (Below.new1 _)); rintro e w6 ⟨y, ly, cy, out, rfl, hR, hI, b6⟩)
        | (go_at_call 21; refine (unhideR CL y ly cy out _ 1 1 [(55296, 57343)] _ ?_ ?_ ?_ ?_).mono ?_; (first | exact hR | exact Rs.later hR (Below.new1 _) (Nat.le_refl _)); (first | exact Rs.single _ 55296 57343 f553 f573 _ rfl | exact Rs.later (Rs.later (Rs.single w5 55296 57343 f553 f573 _ rfl) draws_b (Nat.le_refl _)) b6 (Nat.le_refl _) | exact Rs.later (Rs.single w5 55296 57343 f553 f573 _ rfl) b6 (Nat.le_refl _)); (rw [← hR.hlen]; exact may_small hI.1); (exact (by decide)); rintro e w7 ⟨z, lz, cz, out2, rfl, hR2, hI2, b7⟩)
        | (go_at_call 20; refine (unhideR CS a' (classL true L).length c' (classL true L) z lz cz out2 _ ?_ ?_).mono ?_; (first | exact Rs.later (unhideR HR0) (bthen (bthen (bthen draws_b b6) (Below.new1 _)) b7) (Nat.le_refl _) | exact Rs.later (unhideR HR0) (bthen (bthen (bthen draws_b (Below.new1 _)) b6) b7) (Nat.le_refl _)); (exact hR2); rintro e w8 ⟨rfl, b8⟩))
    all_goals (go_wp2_with fail)
    all_goals go_ret
    all_goals refine ⟨retB (set_same hI hI2), ?_⟩
    all_goals first | exact bthen (bthen (bthen (bthen (B5.trans draws_b) b6) (Below.new1 _)) b7) b8 | exact bthen (bthen (bthen (bthen (B5.trans draws_b) (Below.new1 _)) b6) b7) b8
end Go.Proofs.YtcnjelbbcjpemaaGreatDoor.T

/- Slices of bytes that came in, as the row's reading tells them. -/
namespace Go.Proofs.YtcnjelbbcjpemaaGreatDoor.T
open Go.ChangeShapes Go.WideShapes Go.RowKit
set_option linter.unusedVariables false

theorem bs_trod {H : Type} {enc : TypeId × Value → H} {W : World} {base : Nat} {held : Bool} {fuel : Nat} {a : Option Addr} {len cap : Nat} {x : DataW H × List MemPlace}
    (h : DataW.trod enc Tryz.prog W base (fun _ => true) held fuel 43 [.slice a len cap] = some x) : ∃ l, Bs W a len cap l ∧ (a = Option.none → cap = 0) := by
  rcases open_ints Tryz.underlying43 Tryz.underlying5 (by kernel_rfl) h with ⟨hcs, _⟩ | ⟨y, l, c, zs, hcs, _, hl, hm, hz, _, hcell, hwz⟩
  · simp at hcs
    obtain ⟨rfl, rfl, rfl⟩ := hcs
    exact ⟨_, Bs.ofRow (zs := []) (.inl ⟨rfl, rfl, rfl, rfl⟩), fun _ => rfl⟩
  · simp at hcs
    obtain ⟨rfl, rfl, rfl⟩ := hcs
    exact ⟨_, Bs.ofRow (zs := zs) (.inr ⟨_, rfl, hl, hm, by simpa using hz, hcell, hwz⟩), fun e => by cases e⟩
end Go.Proofs.YtcnjelbbcjpemaaGreatDoor.T

/- A world in which the listed variables lie as the rows list them: a witness. -/
namespace Go.Proofs.YtcnjelbbcjpemaaGreatDoor
open Go.ChangeShapes Go.WideShapes Go.RowKit
set_option linter.unusedVariables false

abbrev laidT : List (String × DataW Unit) := [("math/bits.deBruijn32tab", Rows.laid_math_bits_deBruijn32tab), ("math/bits.deBruijn64tab", Rows.laid_math_bits_deBruijn64tab), ("internal/strconv.uint64pow10", Rows.laid_internal_strconv_uint64pow10), ("unicode/utf8.acceptRanges", Rows.laid_unicode_utf8_acceptRanges), ("unicode/utf8.first", Rows.laid_unicode_utf8_first)]
theorem firstG : Tryz.prog.globalNamed "unicode/utf8.first" = some 0 := by kernel_rfl
theorem firstT : (Tryz.prog.globals[0]?).map (·.type) = some 150 := by kernel_rfl
set_option maxRecDepth 100000 in
theorem doorT_met (os : Os) (args : Array Value) : laidMetH Tryz.prog laidT (World.forCall ({ World.doorLaid Tryz.prog 400 os with heap := (World.doorLaid Tryz.prog 400 os).heap.setIfInBounds 0 (.cells (Pinned.utf8FirstZ.map fun (n : Nat) => Value.int .u8 (n : Int)).toArray 150) }) (fun _ _ => 0) ⟨#[], args, []⟩).memory :=
  laidMetH_of_parts3 (fuel := 8) (laidMet_of_run' 8 (by kernel_rfl) (by kernel_rfl)) (by kernel_rfl) (by kernel_rfl)
theorem gDb : Tryz.prog.globalNamed "math/bits.deBruijn64tab" = some 5 := by kernel_rfl
theorem tDb : (Tryz.prog.globals[5]?).map (·.type) = some 171 := by kernel_rfl
set_option maxRecDepth 100000 in
theorem db_of_laid {W : World} (h : laidMetH Tryz.prog laidT W) : T.Db W := by
  rw [MakeChecks.laidMetH_plain _ _ _ (by kernel_rfl)] at h
  obtain ⟨ps, hv, _⟩ := h
  obtain ⟨_, _, _, _, _, _, _, _, _, _, hv, _⟩ := hv
  obtain ⟨g, t, cs, fuel, p, q, hg, ht, hvar, hd, _, _⟩ := hv
  obtain rfl := Option.some.inj (gDb.symm.trans hg)
  obtain rfl := Option.some.inj (tDb.symm.trans ht)
  have c1 : Tryz.prog.cellsOf 5 = 1 := by kernel_rfl
  have ca : Tryz.prog.cellsOf 171 = 64 := by kernel_rfl
  obtain ⟨xs, m, rfl, hx, hlen, hn, hel⟩ := DataW.trod_array Tryz.underlying171 hd
  have e := hel 15 (by decide)
  rw [c1, Nat.mul_one] at e
  rw [ca] at hlen
  have h15 : 15 < cs.toList.length := by omega
  rw [List.drop_eq_getElem_cons h15, List.take_succ_cons, List.take_zero] at e
  have hx1 := congrArg Prod.fst hx
  simp only at hx1
  unfold Rows.laid_math_bits_deBruijn64tab at hx1
  injection hx1 with hx1
  have hx2 := congrArg (fun l => l[15]?) hx1
  simp only [List.getElem?_map] at hx2
  rw [← e] at hx2
  generalize he : DataW.trod (fun _ => ()) Tryz.prog W 0 (fun _ => true) false m 5 [cs.toList[15]] = r at hx2
  cases r with
  | none => cases hx2
  | some x =>
    obtain ⟨z, e1, e2, _⟩ := DataW.trod_int Tryz.underlying5 he
    simp at e1
    have hz : DataW.lit (H := Unit) (.int .u8 4) = x.1 := Option.some.inj hx2
    rw [e2] at hz
    injection hz with hz
    injection hz with _ hz
    subst hz
    simp only [World.var?, gDb, Option.bind_some] at hvar
    split at hvar
    · next cs' t' fr he' =>
      injection hvar with hvar
      subst hvar
      unfold T.Db
      simp only [World.cell?, he']
      rw [Array.getElem?_eq_getElem (by simpa using h15)]
      simpa using e1
    · cases hvar
end Go.Proofs.YtcnjelbbcjpemaaGreatDoor

/- A slice of ranges that came in, as the row's reading tells it. -/
namespace Go.Proofs.YtcnjelbbcjpemaaGreatDoor
open Go.RowKit Go.Deep
set_option linter.unusedVariables false

theorem fits_wf {n : Int} (h : (Lit.int .i64 n).wf = true) : fits n := by
  have := bounds_i64 h
  unfold fits; omega

theorem Rs.ofTrod {H : Type} {enc : TypeId × Value → H} {W : World} {base : Nat} {spare : Nat → Bool} {held : Bool} {fuel : Nat} {a : Option Addr} {len cap : Nat} {x : DataW H × List MemPlace}
    (h : DataW.trod enc Tryz.prog W base spare held fuel 22 [.slice a len cap] = some x) : ∃ L, Rs W a len cap L := by
  rcases open_slice_pairs Tryz.underlying22 Tryz.underlying42 (by kernel_rfl) rfl rfl (by kernel_rfl) (by kernel_rfl) h with ⟨hc, -⟩ | ⟨ad, l, c, m, n, V0, V1, D0, D1, P0, P1, hc, -, hl, hm, hmm, -, hall⟩
  · simp at hc
    obtain ⟨rfl, rfl, rfl⟩ := hc
    exact ⟨[], Rs.nil W⟩
  · simp at hc
    obtain ⟨rfl, rfl, rfl⟩ := hc
    have hlm : len ≤ m := by rw [hmm]; split <;> omega
    have one : ∀ i, i < len → ∃ p q, V0 i = .int .i64 p ∧ V1 i = .int .i64 q ∧ fits p ∧ fits q := by
      intro i hi
      obtain ⟨-, -, t0, t1⟩ := hall i (by omega)
      obtain ⟨p, e0, -, w0⟩ := DataW.trod_int Tryz.underlying3 t0
      obtain ⟨q, e1, -, w1⟩ := DataW.trod_int Tryz.underlying3 t1
      simp at e0 e1
      exact ⟨p, q, e0, e1, fits_wf w0, fits_wf w1⟩
    refine ⟨(List.range len).map fun i => (intOf (V0 i), intOf (V1 i)), by simp, hl, hm, fun r hr => ?_, fun i hi => ?_⟩
    · simp only [List.mem_map, List.mem_range] at hr
      obtain ⟨i, hi, rfl⟩ := hr
      obtain ⟨p, q, e0, e1, f0, f1⟩ := one i hi
      rw [e0, e1]; exact ⟨f0, f1⟩
    · obtain ⟨p, q, e0, e1, f0, f1⟩ := one i hi
      obtain ⟨c0, c1, -, -⟩ := hall i (by omega)
      obtain ⟨b, off, spot⟩ := ad
      have hspot : spot = none := by simpa [Addr.add] using World.cell?_spot (hall 0 (by omega)).1
      subst hspot
      rw [Addr.add_lit] at c0 c1
      have eL : ((List.range len).map fun i => (intOf (V0 i), intOf (V1 i))).getD i (0, 0) = (intOf (V0 i), intOf (V1 i)) := by simp [List.getD, hi]
      rw [eL]
      refine ⟨b, off, rfl, ?_, ?_⟩
      · rw [c0, e0]; rfl
      · rw [← Nat.add_assoc] at c1; rw [c1, e1]; rfl

end Go.Proofs.YtcnjelbbcjpemaaGreatDoor


namespace Go.Proofs.YtcnjelbbcjpemaaGreatDoor.tokenSet
open Go.ChangeShapes Go.WideShapes Go.ChangeAt Go.RowKit
set_option linter.unusedVariables false

theorem own : ownKnob Tryz.prog.godebug = none := by kernel_rfl
theorem laidOut : laidOutB Tryz.prog = true := by kernel_rfl

theorem walk (a0 : Option Addr) (len0 cap0 : Nat) (L0 : List (Int × Int)) (w : World) (w0 : Rs w a0 len0 cap0 L0) (hdb : T.Db w) :
    Calls Tryz.prog 6 #[.slice a0 len0 cap0] w fun e w' => e = .returned (.bool true) ∧ Below w.heap.size w w' :=
  T.tokenSet_walk a0 len0 cap0 L0 w w0 hdb

set_option maxRecDepth 100000 in
theorem lifted (os : Os) (started : os.Started) (H : Type) (enc : TypeId × Value → H) :
    ReturnsInHanded {} Tryz.checked os 6 .any (fun w args => (Rows.tokenSetSpec.pre enc Tryz.prog Tryz.f6 [] false w args ∧ laidMetH Tryz.prog laidT w) ∧ sizedMet enc Tryz.prog Tryz.f6 (OpenSpec.ofChange Rows.tokenSetSpec) false w args)
      (Rows.tokenSetSpec.post enc Tryz.prog Tryz.f6 false true false false) := by
  refine returnsInHanded_of_change_and (C := Tryz.checked) (X := fun w _ => laidMetH Tryz.prog laidT w) (fun _ _ _ hh h => h.of_heap hh) own started (by kernel_rfl) Tryz.func6
    (ChangeSpec.witness_shaped (enc := enc) (C := Tryz.checked) (os := os) (X := fun w _ => laidMetH Tryz.prog laidT w) false ({ World.doorLaid Tryz.prog 400 os with heap := (World.doorLaid Tryz.prog 400 os).heap.setIfInBounds 0 (.cells (Pinned.utf8FirstZ.map fun (n : Nat) => Value.int .u8 (n : Int)).toArray 150) }) #[.slice none 0 0] 8 rfl (World.shaped_of_RefB (by kernel_rfl) (by kernel_rfl)) (by kernel_rfl) (by kernel_rfl) (by kernel_rfl) (doorT_met os _)) ?_
  intro W base args ds gs before hval0 hW _ _ hL _
  have hval : ∀ (j : Nat) t v, Tryz.f6.params[j]? = some t → args[j]? = some v → Value.okWide Tryz.prog W .any base t v := hval0
  have hW' := hW
  obtain ⟨p, q, hA0, hV, rfl, hfz, hnd⟩ := hW
  have hA : DataW.TrodAll enc Tryz.prog W 0 (fun _ => true) true Tryz.f6.params.toList args.toList ds p := hA0
  rw [Tryz.params6] at hA hval
  obtain ⟨v0, vs0, d0, ds0, p0, q0, hargs, rfl, rfl, h0, r0⟩ := trodAll_cons hA
  obtain ⟨rfl, rfl, rfl⟩ := trodAll_nil r0
  obtain rfl : args = #[v0] := by cases args; simp_all
  obtain ⟨rfl, rfl⟩ := trodVars_none hV
  obtain ⟨a0, len0, cap0, rfl⟩ := okWide_slice Tryz.underlying22 (hval 0 22 v0 rfl rfl)
  have k0 := h0
  have lt0 : ∀ x ∈ p0, x.block < W.heap.size := by obtain ⟨m, hm⟩ := k0; exact DataW.trod_lt m _ _ _ hm
  obtain ⟨L0, w0⟩ : ∃ L, Rs W a0 len0 cap0 L := by
    obtain ⟨fuel, hf⟩ := h0
    exact Rs.ofTrod hf
  clear hA0 hval0
  refine (walk a0 len0 cap0 L0 W w0 (db_of_laid hL)).mono fun e W' ⟨he, bel⟩ => ?_
  subst he
  exact ⟨_, rfl, _, _, _, [], _, [], hW', trodAll_mk1 (shut_bool Tryz.underlying4 _), (trodAll_cons_mk (Below.trod laidOut (by kernel_rfl) (of_decide_eq_true (by kernel_rfl)) k0 bel lt0) trodAll_mk0), rfl, bel.frame _, fun h => by cases h⟩

theorem over : Rows.TokenSetSaid :=
  OpenClaim.holds_of_wide 6 Tryz.f6 rfl rfl rfl rfl rfl rfl rfl ⟨rfl, rfl, rfl, rfl, rfl⟩ rfl rfl rfl rfl rfl (by kernel_rfl) Tryz.func6 (by kernel_rfl)
    (of_decide_eq_true (by kernel_rfl)) (by unfold Func.isWrapper; first | (rw [if_pos (by decide +kernel)]; kernel_rfl) | (rw [if_neg (by decide +kernel)]; exact ⟨rfl, rfl⟩))
    (fun os started H enc _ => lifted os started H enc)

theorem proved : Rows.TokenSetCardSaid :=
  Claim7.holds_tied_plain_at .later [] [.data, .data, .data, .data, .pinned] true (true, "0fe175c34e2fe487b82d7703e3ced40cce0c06719f3f20a3d0e59b14c600997c") false
    over (fun _ h => by cases h) (by kernel_rfl) (fun _ h => by cases h) tokenSet_row_tie rfl ⟨rfl, rfl⟩ (by kernel_rfl) rfl
    (fun f fn hf hfn => by
      obtain rfl : f = 6 := Option.some.inj ((show Tryz.prog.funcNamed "exegete/exegetelaw05.TokenSet" = some 6 by kernel_rfl).symm.trans hf) |>.symm
      obtain rfl : fn = Tryz.f6 := (Option.some.inj (Tryz.func6.symm.trans hfn)).symm
      exact ⟨by kernel_rfl, fun j t ht => by
        rw [Tryz.params6] at ht
        have hm : t ∈ [22] := by simpa using Array.mem_of_getElem? ht
        have hall : ([22].all fun u => !Tryz.prog.wantsStandIn u) = true := by kernel_rfl
        exact (show Tryz.prog.wantsStandIn t = false by simpa using List.all_eq_true.1 hall t hm)⟩)
    (by kernel_rfl)
end Go.Proofs.YtcnjelbbcjpemaaGreatDoor.tokenSet

namespace Go.Proofs.YtcnjelbbcjpemaaGreatDoor
theorem tokenSet_holds : Rows.TokenSetCardSaid := tokenSet.proved
end Go.Proofs.YtcnjelbbcjpemaaGreatDoor
