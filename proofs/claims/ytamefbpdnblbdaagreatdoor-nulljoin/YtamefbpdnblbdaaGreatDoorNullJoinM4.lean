/- Parts of the proof of NullJoin that stand ahead of it (4: RgBase, UtfNext, UtfUnits, RgHas, RgSet, RgPair). -/
import Derived.Test.YtamefbpdnblbdaaGreatDoorChecked
import Derived.WalkKit
import Derived.WalkSpells
import Derived.WalkLawsBesides
import Derived.Laws.EntriesVeiled
import Derived.Test.YtamefbpdnblbdaaGreatDoorNullJoinM1
import Derived.Test.YtamefbpdnblbdaaGreatDoorNullJoinM3
namespace Go.Proofs.YtamefbpdnblbdaaGreatDoor
open Go.RowKit
set_option linter.unusedVariables false

def fits (n : Int) : Prop := -9223372036854775808 ≤ n ∧ n ≤ 9223372036854775807

structure Rs (w : World) (a : Option Addr) (len cap : Nat) (l : List (Int × Int)) : Prop where
  hlen : l.length = len
  hcap : len ≤ cap
  hmax : cap ≤ maxLen
  hfit : ∀ r ∈ l, fits r.1 ∧ fits r.2
  hcell : ∀ i, i < len → ∃ b off, a = some ⟨b, off, none⟩ ∧ w.cell? ⟨b, off + i * 2, none⟩ = some (.int .i64 (l.getD i (0, 0)).1) ∧ w.cell? ⟨b, off + i * 2 + 1, none⟩ = some (.int .i64 (l.getD i (0, 0)).2)

structure Rb (w : World) (b off len cap : Nat) (l : List (Int × Int)) : Prop where
  hlen : l.length = len
  hpos : 1 ≤ len
  hcap : len ≤ cap
  hmax : cap ≤ maxLen
  hfit : ∀ r ∈ l, fits r.1 ∧ fits r.2
  hcell : ∀ i, i < len → w.cell? ⟨b, off + i * 2, none⟩ = some (.int .i64 (l.getD i (0, 0)).1) ∧ w.cell? ⟨b, off + i * 2 + 1, none⟩ = some (.int .i64 (l.getD i (0, 0)).2)

theorem Rs.open {w : World} {a : Option Addr} {len cap : Nat} {l : List (Int × Int)} (h : Rs w a len cap l) (hp : 1 ≤ len) : ∃ b off, a = some ⟨b, off, none⟩ ∧ Rb w b off len cap l := by
  obtain ⟨b, off, ha, hc⟩ := h.hcell 0 (by omega)
  refine ⟨b, off, ha, h.hlen, hp, h.hcap, h.hmax, h.hfit, fun i hi => ?_⟩
  obtain ⟨b', off', ha', hc'⟩ := h.hcell i hi
  rw [ha] at ha'
  injection ha' with e
  injection e with e1 e2
  subst e1; subst e2
  exact hc'

theorem Rs.nil (w : World) : Rs w none 0 0 [] := ⟨rfl, Nat.le_refl _, Nat.zero_le _, fun r hr => (by cases hr), fun i hi => (by omega)⟩

theorem Rb.at {w : World} {b off len cap : Nat} {l : List (Int × Int)} (h : Rb w b off len cap l) (k : Nat) (hk : k < len) :
    ∃ lo hi, l.drop k = (lo, hi) :: l.drop (k + 1) ∧ l.take (k + 1) = l.take k ++ [(lo, hi)] ∧ fits lo ∧ fits hi ∧ w.cell? ⟨b, off + k * 2, none⟩ = some (.int .i64 lo) ∧ w.cell? ⟨b, off + k * 2 + 1, none⟩ = some (.int .i64 hi) := by
  have hl := h.hlen
  have hc := h.hcell k hk
  have hk' : k < l.length := by omega
  have e : l.getD k (0, 0) = l[k] := by simp [List.getD, hk']
  rw [e] at hc
  have hf := h.hfit l[k] (List.getElem_mem hk')
  refine ⟨l[k].1, l[k].2, ?_, ?_, hf.1, hf.2, hc.1, hc.2⟩
  · exact List.drop_eq_getElem_cons hk'
  · exact List.take_succ_eq_append_getElem hk'

theorem block_lt' {w : World} {b o : Nat} {v : Value} (h : w.cell? ⟨b, o, none⟩ = some v) : b < w.heap.size := block_lt_of_cell h

theorem Rs.later {w w' : World} {a : Option Addr} {len cap : Nat} {l : List (Int × Int)} (h : Rs w a len cap l) {B : Nat} (hb : Below B w w') (hB : w.heap.size ≤ B) : Rs w' a len cap l := by
  refine ⟨h.hlen, h.hcap, h.hmax, h.hfit, fun i hi => ?_⟩
  obtain ⟨b, off, ha, hc, hd⟩ := h.hcell i hi
  have hlt : b < w.heap.size := block_lt' hc
  exact ⟨b, off, ha, by rw [hb.cell (p := ⟨b, off + i * 2, none⟩) (Nat.lt_of_lt_of_le hlt hB)]; exact hc, by rw [hb.cell (p := ⟨b, off + i * 2 + 1, none⟩) (Nat.lt_of_lt_of_le hlt hB)]; exact hd⟩

theorem ret_bool {a b : Bool} (h : a = b) : Ending.returned (.bool a) = .returned (.bool b) := by rw [h]
theorem ret_int {a b : Int} (h : a = b) : Ending.returned (.int .i64 a) = .returned (.int .i64 b) := by rw [h]

theorem hideR {p : Prop} (h : p) : Hid p := h
theorem unhideR {p : Prop} (h : Hid p) : p := h

theorem Below.new1 {w : World} (o : Obj) : Below w.heap.size w (w.alloc o) := (Below.refl _ _).alloc (Nat.le_refl _) o

theorem mayFrom_at {least lo hi : Int} {t : List (Int × Int)} : G.mayFrom least ((lo, hi) :: t) = (decide (least ≤ lo) && decide (lo ≤ hi) && decide (hi ≤ 1114111) && G.mayFrom (hi + 2) t) := rfl

set_option maxHeartbeats 1000000 in
theorem rgMay_any (a : Option Addr) (len cap : Nat) (l : List (Int × Int)) (w : World) (h : Rs w a len cap l) :
    Calls Tryz.prog 64 #[.slice a len cap] w fun e w' => e = .returned (.bool (G.mayB l)) ∧ Below w.heap.size w w' := by
  have hl := h.hlen
  have hmax := h.hmax
  have hcap := h.hcap
  unfold maxLen at hmax
  go_enter Tryz.func64, Tryz.ntmps64
  go_wp2
  go_loopw [3, 8] (fun t i wr => ∃ (k : Nat) (least : Int), k ≤ len ∧ i = .int .i64 k ∧ t = .int .i64 least ∧ 0 ≤ least ∧ least ≤ 1114113 ∧ Hid (G.mayFrom least (l.drop k) = G.mayB l) ∧ Below w.heap.size w wr) (fun _ i _ => len - (intOf i).toNat)
  case atStart => exact ⟨0, 0, Nat.zero_le _, rfl, rfl, by omega, by omega, by show G.mayFrom 0 l = G.mayB l; rfl, Below.refl _ _⟩
  case round =>
    obtain ⟨k, least, hk, rfl, rfl, hl0, hl1, hn, hb⟩ := hrel
    by_cases hlt : k < len
    · obtain ⟨b, off, rfl, hr⟩ := (h.later hb (Nat.le_refl _)).open (by omega)
      obtain ⟨lo, hi, hd, -, f1, f2, c0, c1⟩ := hr.at k hlt
      unfold fits at f1 f2
      have hd' : Hid (l.drop k = (lo, hi) :: l.drop (k + 1)) := hd
      clear hd hr
      by_cases t1 : lo < least
      · have fin : Hid (G.mayB l = false) := by
          show G.mayB l = false
          rw [← hn.out, hd'.out, mayFrom_at, decide_eq_false (by omega)]; simp
        go_wp2
        go_ret
        exact ⟨ret_bool fin.out.symm, hb.trans ((Below.new1 _).mono hb.size)⟩
      · by_cases t2 : hi < lo
        · have fin : Hid (G.mayB l = false) := by
            show G.mayB l = false
            rw [← hn.out, hd'.out, mayFrom_at, decide_eq_false (show ¬ lo ≤ hi by omega)]; simp
          go_wp2
          go_ret
          exact ⟨ret_bool fin.out.symm, hb.trans ((Below.new1 _).mono hb.size)⟩
        · by_cases t3 : 1114111 < hi
          · have fin : Hid (G.mayB l = false) := by
              show G.mayB l = false
              rw [← hn.out, hd'.out, mayFrom_at, decide_eq_false (show ¬ hi ≤ 1114111 by omega)]; simp
            go_wp2
            go_ret
            exact ⟨ret_bool fin.out.symm, hb.trans ((Below.new1 _).mono hb.size)⟩
          · have fin : Hid (G.mayFrom (hi + 2) (l.drop (k + 1)) = G.mayB l) := by
              show _ = G.mayB l
              rw [← hn.out, hd'.out, mayFrom_at, decide_eq_true (show least ≤ lo by omega), decide_eq_true (show lo ≤ hi by omega), decide_eq_true (show hi ≤ 1114111 by omega)]; simp
            go_wp2
            go_roundw
            case rel => exact ⟨k + 1, hi + 2, by omega, by go_num, rfl, by omega, by omega, fin, hb.trans ((Below.new1 _).mono hb.size)⟩
            case measure => simp [intOf]; omega
    · have fin : Hid (G.mayB l = true) := by
        show G.mayB l = true
        rw [← hn.out, List.drop_of_length_le (by omega)]; rfl
      go_wp2
      go_ret
      exact ⟨ret_bool fin.out.symm, hb⟩

end Go.Proofs.YtamefbpdnblbdaaGreatDoor

namespace Go.Proofs.YtamefbpdnblbdaaGreatDoor
open Go.RowKit
set_option linter.unusedVariables false

structure Bs (w : World) (a : Option Addr) (len cap : Nat) (l : List Int) : Prop where
  hlen : l.length = len
  hcap : len ≤ cap
  hmax : cap ≤ maxLen
  hbytes : U.isBytes l
  hcell : ∀ i, i < len → ∃ b off, a = some ⟨b, off, none⟩ ∧ w.cell? ⟨b, off + i, none⟩ = some (.int .u8 (l.getD i 0))

structure Bb (w : World) (b off len cap : Nat) (l : List Int) : Prop where
  hlen : l.length = len
  hpos : 1 ≤ len
  hcap : len ≤ cap
  hmax : cap ≤ maxLen
  hbytes : U.isBytes l
  hcell : ∀ i, i < len → w.cell? ⟨b, off + i, none⟩ = some (.int .u8 (l.getD i 0))

theorem Bs.open {w : World} {a : Option Addr} {len cap : Nat} {l : List Int} (h : Bs w a len cap l) (hp : 1 ≤ len) : ∃ b off, a = some ⟨b, off, none⟩ ∧ Bb w b off len cap l := by
  obtain ⟨b, off, ha, hc⟩ := h.hcell 0 (by omega)
  refine ⟨b, off, ha, h.hlen, hp, h.hcap, h.hmax, h.hbytes, fun i hi => ?_⟩
  obtain ⟨b', off', ha', hc'⟩ := h.hcell i hi
  rw [ha] at ha'
  injection ha' with e
  injection e with e1 e2
  subst e1; subst e2
  exact hc'

theorem Bb.drop {w : World} {b off len cap : Nat} {l : List Int} (h : Bb w b off len cap l) (k : Nat) (hk : k < len) : Bb w b (off + k) (len - k) (cap - k) (l.drop k) := by
  have h1 := h.hcap
  have h2 := h.hmax
  refine ⟨by rw [List.length_drop, h.hlen], by omega, by omega, by omega, U.isBytes_drop h.hbytes k, fun i hi => ?_⟩
  have := h.hcell (k + i) (by omega)
  rw [Nat.add_assoc, this]
  simp [List.getD]

set_option maxHeartbeats 400000 in
theorem many_any (b off len cap : Nat) (w : World) (c : Int) (m : Nat) (hm : U.manyN c = m) (hp : (0 : Int) < (len : Int)) (hc : w.cell? ⟨b, off, none⟩ = some (.int .u8 c)) (hb : 0 ≤ c ∧ c ≤ 255) :
    Calls Tryz.prog 176 #[.slice (some ⟨b, off, none⟩) len cap] w fun e w' => e = .returned (.int .i64 m) ∧ w' = w := by
    unfold U.manyN at hm
    by_cases c1 : c < 128
    · rw [if_pos c1] at hm; subst hm
      go_enter Tryz.func176, Tryz.ntmps176
      go_wp2
      go_ret
      exact ⟨rfl, rfl⟩
    rw [if_neg c1] at hm
    by_cases c2 : c < 192
    · rw [if_pos c2] at hm; subst hm
      go_enter Tryz.func176, Tryz.ntmps176
      go_wp2
      go_ret
      exact ⟨rfl, rfl⟩
    rw [if_neg c2] at hm
    by_cases c3 : c < 224
    · rw [if_pos c3] at hm; subst hm
      go_enter Tryz.func176, Tryz.ntmps176
      go_wp2
      go_ret
      exact ⟨rfl, rfl⟩
    rw [if_neg c3] at hm
    by_cases c4 : c < 240
    · rw [if_pos c4] at hm; subst hm
      go_enter Tryz.func176, Tryz.ntmps176
      go_wp2
      go_ret
      exact ⟨rfl, rfl⟩
    rw [if_neg c4] at hm
    by_cases c5 : c < 248
    · rw [if_pos c5] at hm; subst hm
      go_enter Tryz.func176, Tryz.ntmps176
      go_wp2
      go_ret
      exact ⟨rfl, rfl⟩
    · rw [if_neg c5] at hm; subst hm
      go_enter Tryz.func176, Tryz.ntmps176
      go_wp2
      go_ret
      exact ⟨rfl, rfl⟩

set_option maxHeartbeats 400000 in
theorem scalarFrom_any (least r : Int) (w : World) :
    Calls Tryz.prog 205 #[.int .i64 least, .int .i64 r] w fun e w' => e = .returned (.int .i64 (U.fromN least r)) ∧ w' = w := by
  have key : ∀ m : Int, U.fromN least r = m → Calls Tryz.prog 205 #[.int .i64 least, .int .i64 r] w fun e w' => e = .returned (.int .i64 m) ∧ w' = w := by
    intro m hm
    unfold U.fromN at hm
    by_cases c1 : r < least
    · rw [if_pos (Or.inl c1)] at hm; subst hm
      go_enter Tryz.func205, Tryz.ntmps205
      go_wp2
      go_ret
      exact ⟨rfl, rfl⟩
    · cases c2 : U.mayB r
      · rw [if_pos (Or.inr c2)] at hm; subst hm
        go_enter Tryz.func205, Tryz.ntmps205
        go_wp2_with (go_at_call 175; refine (may_any _ _).mono ?_; rintro e w' ⟨rfl, rfl⟩)
        go_ret
        exact ⟨rfl, rfl⟩
      · rw [if_neg (by simp [c2]; omega)] at hm; subst hm
        go_enter Tryz.func205, Tryz.ntmps205
        go_wp2_with (go_at_call 175; refine (may_any _ _).mono ?_; rintro e w' ⟨rfl, rfl⟩)
        go_ret
        exact ⟨rfl, rfl⟩
  exact key _ rfl

set_option maxHeartbeats 400000 in
theorem add_any (b off len cap : Nat) (w : World) (high i c : Int) (n : Nat) (hi : i = (n : Int)) (hn : n < len) (hlen : len ≤ maxLen) (hc : w.cell? ⟨b, off + n, none⟩ = some (.int .u8 c)) (hb : 0 ≤ c ∧ c ≤ 255) (hh : -300 ≤ high) (hh2 : high ≤ 10000000) :
    Calls Tryz.prog 206 #[.slice (some ⟨b, off, none⟩) len cap, .int .i64 high, .int .i64 i] w fun e w' => e = .returned (.int .i64 (U.addN high c)) ∧ w' = w := by
  subst hi
  have hm : len ≤ 9223372036854775807 := by unfold maxLen at hlen; omega
  clear hlen
  have key : ∀ m : Int, U.addN high c = m → Calls Tryz.prog 206 #[.slice (some ⟨b, off, none⟩) len cap, .int .i64 high, .int .i64 n] w fun e w' => e = .returned (.int .i64 m) ∧ w' = w := by
    intro m hm'
    unfold U.addN at hm'
    by_cases c1 : high < 0
    · rw [if_pos (Or.inl c1)] at hm'; subst hm'
      go_enter Tryz.func206, Tryz.ntmps206
      go_wp2
      go_ret
      exact ⟨rfl, rfl⟩
    · by_cases c2 : c / 64 = 2
      · rw [if_neg (by omega)] at hm'; subst hm'
        have c3 : (c / 64 != 2) = false := by simp [c2]
        clear c2
        go_enter Tryz.func206, Tryz.ntmps206
        go_wp2
        go_ret
        exact ⟨rfl, rfl⟩
      · rw [if_pos (Or.inr c2)] at hm'; subst hm'
        have c3 : (c / 64 != 2) = true := by simp [c2]
        clear c2
        go_enter Tryz.func206, Tryz.ntmps206
        go_wp2
        go_ret
        exact ⟨rfl, rfl⟩
  exact key _ rfl

theorem addN_bd (h z : Int) (_hz : 0 ≤ z) : -1 ≤ U.addN h z ∧ (U.addN h z ≤ h * 64 + 63 ∨ U.addN h z = -1) := by
  unfold U.addN; split <;> omega

set_option maxHeartbeats 400000 in
theorem two_any (b off len cap : Nat) (w : World) (c0 c1 : Int) (hn : 2 ≤ len) (hlen : len ≤ maxLen) (k0 : w.cell? ⟨b, off, none⟩ = some (.int .u8 c0)) (k1 : w.cell? ⟨b, off + 1, none⟩ = some (.int .u8 c1)) (b0 : 0 ≤ c0 ∧ c0 ≤ 255) (b1 : 0 ≤ c1 ∧ c1 ≤ 255) :
    Calls Tryz.prog 189 #[.slice (some ⟨b, off, none⟩) len cap] w fun e w' => e = .returned (.int .i64 (U.fromN 128 (U.addN (c0 - 192) c1))) ∧ w' = w := by
  have hp : (0 : Int) < (len : Int) := by omega
  go_enter Tryz.func189, Tryz.ntmps189
  go_wp2_with (first | (go_at_call 206; refine (add_any b off len cap _ _ _ c1 1 rfl (by omega) hlen k1 b1 (by omega) (by omega)).mono ?_; rintro e w' ⟨rfl, rfl⟩) | (go_at_call 205; refine (scalarFrom_any _ _ _).mono ?_; rintro e w' ⟨rfl, rfl⟩))
  go_ret
  exact ⟨rfl, rfl⟩

set_option maxHeartbeats 400000 in
theorem three_any (b off len cap : Nat) (w : World) (c0 c1 c2 : Int) (hn : 3 ≤ len) (hlen : len ≤ maxLen) (k0 : w.cell? ⟨b, off, none⟩ = some (.int .u8 c0)) (k1 : w.cell? ⟨b, off + 1, none⟩ = some (.int .u8 c1)) (k2 : w.cell? ⟨b, off + 2, none⟩ = some (.int .u8 c2)) (b0 : 0 ≤ c0 ∧ c0 ≤ 255) (b1 : 0 ≤ c1 ∧ c1 ≤ 255) (b2 : 0 ≤ c2 ∧ c2 ≤ 255) :
    Calls Tryz.prog 190 #[.slice (some ⟨b, off, none⟩) len cap] w fun e w' => e = .returned (.int .i64 (U.fromN 2048 (U.addN (U.addN (c0 - 224) c1) c2))) ∧ w' = w := by
  have hp : (0 : Int) < (len : Int) := by omega
  have h1 := addN_bd (c0 - 224) c1 b1.1
  go_enter Tryz.func190, Tryz.ntmps190
  go_wp2_with fail
  refine (add_any b off len cap _ _ _ c1 1 rfl (by omega) hlen k1 b1 (by omega) (by omega)).mono ?_
  rintro e w' ⟨rfl, rfl⟩
  go_wp2_with fail
  refine (add_any b off len cap _ _ _ c2 2 rfl (by omega) hlen k2 b2 (by omega) (by omega)).mono ?_
  rintro e w' ⟨rfl, rfl⟩
  go_wp2_with (go_at_call 205; refine (scalarFrom_any _ _ _).mono ?_; rintro e w' ⟨rfl, rfl⟩)
  go_ret
  exact ⟨rfl, rfl⟩

set_option maxHeartbeats 400000 in
theorem four_any (b off len cap : Nat) (w : World) (c0 c1 c2 c3 : Int) (hn : 4 ≤ len) (hlen : len ≤ maxLen) (k0 : w.cell? ⟨b, off, none⟩ = some (.int .u8 c0)) (k1 : w.cell? ⟨b, off + 1, none⟩ = some (.int .u8 c1)) (k2 : w.cell? ⟨b, off + 2, none⟩ = some (.int .u8 c2)) (k3 : w.cell? ⟨b, off + 3, none⟩ = some (.int .u8 c3)) (b0 : 0 ≤ c0 ∧ c0 ≤ 255) (b1 : 0 ≤ c1 ∧ c1 ≤ 255) (b2 : 0 ≤ c2 ∧ c2 ≤ 255) (b3 : 0 ≤ c3 ∧ c3 ≤ 255) :
    Calls Tryz.prog 191 #[.slice (some ⟨b, off, none⟩) len cap] w fun e w' => e = .returned (.int .i64 (U.fromN 65536 (U.addN (U.addN (U.addN (c0 - 240) c1) c2) c3))) ∧ w' = w := by
  have hp : (0 : Int) < (len : Int) := by omega
  have h1 := addN_bd (c0 - 240) c1 b1.1
  have h2 := addN_bd (U.addN (c0 - 240) c1) c2 b2.1
  go_enter Tryz.func191, Tryz.ntmps191
  go_wp2_with fail
  refine (add_any b off len cap _ _ _ c1 1 rfl (by omega) hlen k1 b1 (by omega) (by omega)).mono ?_
  rintro e w' ⟨rfl, rfl⟩
  go_wp2_with fail
  refine (add_any b off len cap _ _ _ c2 2 rfl (by omega) hlen k2 b2 (by omega) (by omega)).mono ?_
  rintro e w' ⟨rfl, rfl⟩
  go_wp2_with fail
  refine (add_any b off len cap _ _ _ c3 3 rfl (by omega) hlen k3 b3 (by omega) (by omega)).mono ?_
  rintro e w' ⟨rfl, rfl⟩
  go_wp2_with (go_at_call 205; refine (scalarFrom_any _ _ _).mono ?_; rintro e w' ⟨rfl, rfl⟩)
  go_ret
  exact ⟨rfl, rfl⟩

set_option maxHeartbeats 400000 in
theorem one_any (b off len cap : Nat) (w : World) (c0 : Int) (hn : 1 ≤ len) (k0 : w.cell? ⟨b, off, none⟩ = some (.int .u8 c0)) (b0 : 0 ≤ c0 ∧ c0 ≤ 255) :
    Calls Tryz.prog 188 #[.slice (some ⟨b, off, none⟩) len cap] w fun e w' => e = .returned (.int .i64 c0) ∧ w' = w := by
  have hp : (0 : Int) < (len : Int) := by omega
  go_enter Tryz.func188, Tryz.ntmps188
  go_wp2
  go_ret
  exact ⟨rfl, rfl⟩

set_option maxHeartbeats 400000 in
theorem none_any (b off len cap : Nat) (w : World) :
    Calls Tryz.prog 187 #[.slice (some ⟨b, off, none⟩) len cap] w fun e w' => e = .returned (.int .i64 (-1)) ∧ w' = w := by
  go_enter Tryz.func187, Tryz.ntmps187
  go_wp2
  go_ret
  exact ⟨rfl, rfl⟩

def readersObj : Obj := .cells #[.func (.func 187) #[] #[], .func (.func 188) #[] #[], .func (.func 189) #[] #[], .func (.func 190) #[] #[], .func (.func 191) #[] #[]] 216

set_option maxHeartbeats 400000 in
theorem readers_any (w : World) :
    Calls Tryz.prog 177 #[] w fun e w' => e = .returned (.agg #[.func (.func 187) #[] #[], .func (.func 188) #[] #[], .func (.func 189) #[] #[], .func (.func 190) #[] #[], .func (.func 191) #[] #[]]) ∧ w' = w.alloc readersObj := by
  unfold readersObj
  go_enter Tryz.func177, Tryz.ntmps177
  go_wp2
  exact bodyPost_ret (v := .agg #[.func (.func 187) #[] #[], .func (.func 188) #[] #[], .func (.func 189) #[] #[], .func (.func 190) #[] #[], .func (.func 191) #[] #[]]) (by simp [results, Tryz.results177, go_sem]) rfl ⟨rfl, rfl⟩

set_option maxHeartbeats 400000 in
theorem next_out (a : Option Addr) (len cap : Nat) (w : World) (at' : Int) (h : at' < 0 ∨ (len : Int) ≤ at') :
    Calls Tryz.prog 153 #[.slice a len cap, .int .i64 at'] w fun e w' => e = .returned (.tuple #[.int .i64 (-1), .int .i64 0]) ∧ w' = w := by
  by_cases h0 : at' < 0
  · go_enter Tryz.func153, Tryz.ntmps153
    go_wp2
    go_ret2
    exact ⟨rfl, rfl⟩
  · have h1 : (len : Int) ≤ at' := by omega
    clear h
    go_enter Tryz.func153, Tryz.ntmps153
    go_wp2
    go_ret2
    exact ⟨rfl, rfl⟩

set_option maxHeartbeats 400000 in
theorem next_short (b off len cap : Nat) (w : World) (n m : Nat) (c : Int) (hm : U.manyN c = m) (hn : n < len) (hcap : len ≤ cap) (hmax : cap ≤ maxLen) (hc : w.cell? ⟨b, off + n, none⟩ = some (.int .u8 c)) (hb : 0 ≤ c ∧ c ≤ 255) (hs : len - n < m) :
    Calls Tryz.prog 153 #[.slice (some ⟨b, off, none⟩) len cap, .int .i64 n] w fun e w' => e = .returned (.tuple #[.int .i64 (-1), .int .i64 1]) ∧ w' = w := by
  unfold maxLen at hmax
  have HM : Hid (U.manyN c = m) := hm
  clear hm
  have hne : ¬ cap = n := by omega
  go_enter Tryz.func153, Tryz.ntmps153
  go_wp2_with (go_at_call 176; refine (many_any _ _ _ _ _ c m HM.out (by omega) hc hb).mono ?_; rintro e w' ⟨rfl, rfl⟩)
  go_ret2
  exact ⟨rfl, rfl⟩

theorem hideC {p : Prop} (h : p) : Hid p := h
theorem unhideC {p : Prop} (h : Hid p) : p := h
set_option maxHeartbeats 1000000 in
theorem next_long (b off len cap : Nat) (w : World) (n m : Nat) (c r : Int) (hm : U.manyN c = m) (hn : n < len) (hcap : len ≤ cap) (hmax : cap ≤ maxLen) (hc : w.cell? ⟨b, off + n, none⟩ = some (.int .u8 c)) (hb : 0 ≤ c ∧ c ≤ 255) (hs : m ≤ len - n)
    (f : Nat) (hf : (m = 0 ∧ f = 187) ∨ (m = 1 ∧ f = 188) ∨ (m = 2 ∧ f = 189) ∨ (m = 3 ∧ f = 190) ∨ (m = 4 ∧ f = 191))
    (hr : Calls Tryz.prog f #[.slice (some ⟨b, off + n, none⟩) (len - n) (cap - n)] (w.alloc readersObj) fun e w' => e = .returned (.int .i64 r) ∧ w' = w.alloc readersObj) (x : Int) (k : Nat) (hx : (r < 0 ∧ x = -1 ∧ k = 1) ∨ (0 ≤ r ∧ x = r ∧ k = m)) :
    Calls Tryz.prog 153 #[.slice (some ⟨b, off, none⟩) len cap, .int .i64 n] w fun e w' => e = .returned (.tuple #[.int .i64 x, .int .i64 k]) ∧ w' = w.alloc readersObj := by
  unfold maxLen at hmax
  have hne : ¬ cap = n := by omega
  rcases hf with ⟨rfl, rfl⟩ | ⟨rfl, rfl⟩ | ⟨rfl, rfl⟩ | ⟨rfl, rfl⟩ | ⟨rfl, rfl⟩
  · have HM : Hid (U.manyN c = 0) := hm
    clear hm
    have HR := hideC hr
    clear hr
    have ix : ∀ w, (Instr.index 216 (.agg #[.func (.func 187) #[] #[], .func (.func 188) #[] #[], .func (.func 189) #[] #[], .func (.func 190) #[] #[], .func (.func 191) #[] #[]]) (.int .i64 0)).run Tryz.prog w = .ok (.func (.func 187) #[] #[]) w := fun _ => by kernel_rfl
    rcases hx with ⟨hx1, rfl, rfl⟩ | ⟨hx1, rfl, rfl⟩
    all_goals
      go_enter Tryz.func153, Tryz.ntmps153
      go_wp2_with fail
      refine (many_any _ _ _ _ _ c 0 HM.out (by omega) hc hb).mono ?_
      rintro e w' ⟨rfl, rfl⟩
      go_wp2_with fail
      refine (readers_any _).mono ?_
      rintro e w' ⟨rfl, rfl⟩
      go_wp2_with fail
      refine (unhideC HR).mono ?_
      rintro e w' ⟨rfl, rfl⟩
      go_wp2_with fail
      go_ret2
      exact ⟨rfl, rfl⟩
  · have HM : Hid (U.manyN c = 1) := hm
    clear hm
    have HR := hideC hr
    clear hr
    have ix : ∀ w, (Instr.index 216 (.agg #[.func (.func 187) #[] #[], .func (.func 188) #[] #[], .func (.func 189) #[] #[], .func (.func 190) #[] #[], .func (.func 191) #[] #[]]) (.int .i64 1)).run Tryz.prog w = .ok (.func (.func 188) #[] #[]) w := fun _ => by kernel_rfl
    rcases hx with ⟨hx1, rfl, rfl⟩ | ⟨hx1, rfl, rfl⟩
    all_goals
      go_enter Tryz.func153, Tryz.ntmps153
      go_wp2_with fail
      refine (many_any _ _ _ _ _ c 1 HM.out (by omega) hc hb).mono ?_
      rintro e w' ⟨rfl, rfl⟩
      go_wp2_with fail
      refine (readers_any _).mono ?_
      rintro e w' ⟨rfl, rfl⟩
      go_wp2_with fail
      refine (unhideC HR).mono ?_
      rintro e w' ⟨rfl, rfl⟩
      go_wp2_with fail
      go_ret2
      exact ⟨rfl, rfl⟩
  · have HM : Hid (U.manyN c = 2) := hm
    clear hm
    have HR := hideC hr
    clear hr
    have ix : ∀ w, (Instr.index 216 (.agg #[.func (.func 187) #[] #[], .func (.func 188) #[] #[], .func (.func 189) #[] #[], .func (.func 190) #[] #[], .func (.func 191) #[] #[]]) (.int .i64 2)).run Tryz.prog w = .ok (.func (.func 189) #[] #[]) w := fun _ => by kernel_rfl
    rcases hx with ⟨hx1, rfl, rfl⟩ | ⟨hx1, rfl, rfl⟩
    all_goals
      go_enter Tryz.func153, Tryz.ntmps153
      go_wp2_with fail
      refine (many_any _ _ _ _ _ c 2 HM.out (by omega) hc hb).mono ?_
      rintro e w' ⟨rfl, rfl⟩
      go_wp2_with fail
      refine (readers_any _).mono ?_
      rintro e w' ⟨rfl, rfl⟩
      go_wp2_with fail
      refine (unhideC HR).mono ?_
      rintro e w' ⟨rfl, rfl⟩
      go_wp2_with fail
      go_ret2
      exact ⟨rfl, rfl⟩
  · have HM : Hid (U.manyN c = 3) := hm
    clear hm
    have HR := hideC hr
    clear hr
    have ix : ∀ w, (Instr.index 216 (.agg #[.func (.func 187) #[] #[], .func (.func 188) #[] #[], .func (.func 189) #[] #[], .func (.func 190) #[] #[], .func (.func 191) #[] #[]]) (.int .i64 3)).run Tryz.prog w = .ok (.func (.func 190) #[] #[]) w := fun _ => by kernel_rfl
    rcases hx with ⟨hx1, rfl, rfl⟩ | ⟨hx1, rfl, rfl⟩
    all_goals
      go_enter Tryz.func153, Tryz.ntmps153
      go_wp2_with fail
      refine (many_any _ _ _ _ _ c 3 HM.out (by omega) hc hb).mono ?_
      rintro e w' ⟨rfl, rfl⟩
      go_wp2_with fail
      refine (readers_any _).mono ?_
      rintro e w' ⟨rfl, rfl⟩
      go_wp2_with fail
      refine (unhideC HR).mono ?_
      rintro e w' ⟨rfl, rfl⟩
      go_wp2_with fail
      go_ret2
      exact ⟨rfl, rfl⟩
  · have HM : Hid (U.manyN c = 4) := hm
    clear hm
    have HR := hideC hr
    clear hr
    have ix : ∀ w, (Instr.index 216 (.agg #[.func (.func 187) #[] #[], .func (.func 188) #[] #[], .func (.func 189) #[] #[], .func (.func 190) #[] #[], .func (.func 191) #[] #[]]) (.int .i64 4)).run Tryz.prog w = .ok (.func (.func 191) #[] #[]) w := fun _ => by kernel_rfl
    rcases hx with ⟨hx1, rfl, rfl⟩ | ⟨hx1, rfl, rfl⟩
    all_goals
      go_enter Tryz.func153, Tryz.ntmps153
      go_wp2_with fail
      refine (many_any _ _ _ _ _ c 4 HM.out (by omega) hc hb).mono ?_
      rintro e w' ⟨rfl, rfl⟩
      go_wp2_with fail
      refine (readers_any _).mono ?_
      rintro e w' ⟨rfl, rfl⟩
      go_wp2_with fail
      refine (unhideC HR).mono ?_
      rintro e w' ⟨rfl, rfl⟩
      go_wp2_with fail
      go_ret2
      exact ⟨rfl, rfl⟩

end Go.Proofs.YtamefbpdnblbdaaGreatDoor

namespace Go.Proofs.YtamefbpdnblbdaaGreatDoor
open Go.RowKit
set_option linter.unusedVariables false

def nx (l : List Int) (at' : Int) : Int × Nat := if at' < 0 ∨ (l.length : Int) ≤ at' then (-1, 0) else U.nextL (l.drop at'.toNat)

theorem Below.one {w : World} (o : Obj) : Below w.heap.size w (w.alloc o) := (Below.refl _ _).alloc (Nat.le_refl _) o

theorem next_any (a : Option Addr) (len cap : Nat) (l : List Int) (w : World) (h : Bs w a len cap l) (at' : Int) :
    Calls Tryz.prog 153 #[.slice a len cap, .int .i64 at'] w fun e w' => e = .returned (.tuple #[.int .i64 (nx l at').1, .int .i64 (nx l at').2]) ∧ Below w.heap.size w w' := by
  have hl := h.hlen
  by_cases ho : at' < 0 ∨ (len : Int) ≤ at'
  · have e : nx l at' = (-1, 0) := by unfold nx; rw [if_pos (by omega)]
    rw [e]
    refine (next_out a len cap w at' ho).mono ?_
    rintro e w' ⟨rfl, rfl⟩
    exact ⟨rfl, Below.refl _ _⟩
  · have e : nx l at' = U.nextL (l.drop at'.toNat) := by unfold nx; rw [if_neg (by omega)]
    rw [e]; clear e
    obtain ⟨n, rfl⟩ := Int.eq_ofNat_of_zero_le (by omega : 0 ≤ at')
    simp only [Int.toNat_natCast] at *
    have hn : n < len := by omega
    clear ho
    obtain ⟨b, off, rfl, hb⟩ := h.open (by omega)
    have hd := hb.drop n hn
    have hcap := h.hcap
    have hmax := h.hmax
    generalize l.drop n = l' at hd
    have c0 := hd.hcell 0 hd.hpos
    have b0 := U.isBytes_getD hd.hbytes 0
    rw [Nat.add_zero] at c0
    have hne : l' ≠ [] := by have := hd.hlen; have := hd.hpos; intro e; subst e; simp at *; omega
    have hmx : len - n ≤ maxLen := by omega
    have cw : ∀ i x, w.cell? ⟨b, i, none⟩ = some x → (w.alloc readersObj).cell? ⟨b, i, none⟩ = some x := by
      intro i x hx
      have hlt : b < w.heap.size := block_lt_of_cell hx
      rw [(Below.one (w := w) readersObj).cell (p := ⟨b, i, none⟩) hlt]; exact hx
    by_cases hs : len - n < U.manyN (l'.getD 0 0)
    · have e : U.nextL l' = (-1, 1) := by unfold U.nextL; rw [if_neg hne, hd.hlen, if_pos hs]
      rw [e]
      refine (next_short b off len cap w n _ _ rfl hn hcap hmax c0 b0 hs).mono ?_
      rintro e w' ⟨rfl, rfl⟩
      exact ⟨rfl, Below.refl _ _⟩
    · have e : U.nextL l' = if U.readN (U.manyN (l'.getD 0 0)) l' < 0 then (-1, 1) else (U.readN (U.manyN (l'.getD 0 0)) l', U.manyN (l'.getD 0 0)) := by
        unfold U.nextL; rw [if_neg hne, hd.hlen, if_neg hs]
      have fin : ∀ f : Nat, ((U.manyN (l'.getD 0 0) = 0 ∧ f = 187) ∨ (U.manyN (l'.getD 0 0) = 1 ∧ f = 188) ∨ (U.manyN (l'.getD 0 0) = 2 ∧ f = 189) ∨ (U.manyN (l'.getD 0 0) = 3 ∧ f = 190) ∨ (U.manyN (l'.getD 0 0) = 4 ∧ f = 191)) →
          (Calls Tryz.prog f #[.slice (some ⟨b, off + n, none⟩) (len - n) (cap - n)] (w.alloc readersObj) fun e w' => e = .returned (.int .i64 (U.readN (U.manyN (l'.getD 0 0)) l')) ∧ w' = w.alloc readersObj) →
          Calls Tryz.prog 153 #[.slice (some ⟨b, off, none⟩) len cap, .int .i64 n] w fun e w' => e = .returned (.tuple #[.int .i64 (U.nextL l').1, .int .i64 (U.nextL l').2]) ∧ Below w.heap.size w w' := by
        intro f hf hr
        refine (next_long b off len cap w n _ _ _ rfl hn hcap hmax c0 b0 (by omega) f hf hr (U.nextL l').1 (U.nextL l').2 ?_).mono ?_
        · rw [e]
          by_cases hr0 : U.readN (U.manyN (l'.getD 0 0)) l' < 0
          · rw [if_pos hr0]; exact .inl ⟨hr0, rfl, rfl⟩
          · rw [if_neg hr0]; exact .inr ⟨by omega, rfl, rfl⟩
        · rintro e w' ⟨rfl, rfl⟩
          exact ⟨rfl, Below.one _⟩
      have hm : U.manyN (l'.getD 0 0) = 0 ∨ U.manyN (l'.getD 0 0) = 1 ∨ U.manyN (l'.getD 0 0) = 2 ∨ U.manyN (l'.getD 0 0) = 3 ∨ U.manyN (l'.getD 0 0) = 4 := by
        unfold U.manyN; split; · simp
        split; · simp
        split; · simp
        split; · simp
        split <;> simp
      rcases hm with hm | hm | hm | hm | hm
      · refine fin 187 (.inl ⟨hm, rfl⟩) ?_
        rw [hm, show U.readN 0 l' = -1 by simp [U.readN]]
        exact none_any _ _ _ _ _
      · refine fin 188 (.inr (.inl ⟨hm, rfl⟩)) ?_
        rw [hm, show U.readN 1 l' = l'.getD 0 0 by simp [U.readN]]
        exact one_any _ _ _ _ _ _ (by omega) (cw _ _ c0) b0
      · refine fin 189 (.inr (.inr (.inl ⟨hm, rfl⟩))) ?_
        rw [hm] at hs
        rw [hm, show U.readN 2 l' = U.fromN 128 (U.addN (l'.getD 0 0 - 192) (l'.getD 1 0)) from rfl]
        exact two_any _ _ _ _ _ _ _ (by omega) hmx (cw _ _ c0) (cw _ _ (hd.hcell 1 (by omega))) b0 (U.isBytes_getD hd.hbytes 1)
      · refine fin 190 (.inr (.inr (.inr (.inl ⟨hm, rfl⟩)))) ?_
        rw [hm] at hs
        rw [hm, show U.readN 3 l' = U.fromN 2048 (U.addN (U.addN (l'.getD 0 0 - 224) (l'.getD 1 0)) (l'.getD 2 0)) from rfl]
        exact three_any _ _ _ _ _ _ _ _ (by omega) hmx (cw _ _ c0) (cw _ _ (hd.hcell 1 (by omega))) (cw _ _ (hd.hcell 2 (by omega))) b0 (U.isBytes_getD hd.hbytes 1) (U.isBytes_getD hd.hbytes 2)
      · refine fin 191 (.inr (.inr (.inr (.inr ⟨hm, rfl⟩)))) ?_
        rw [hm] at hs
        rw [hm, show U.readN 4 l' = U.fromN 65536 (U.addN (U.addN (U.addN (l'.getD 0 0 - 240) (l'.getD 1 0)) (l'.getD 2 0)) (l'.getD 3 0)) from rfl]
        exact four_any _ _ _ _ _ _ _ _ _ (by omega) hmx (cw _ _ c0) (cw _ _ (hd.hcell 1 (by omega))) (cw _ _ (hd.hcell 2 (by omega))) (cw _ _ (hd.hcell 3 (by omega))) b0 (U.isBytes_getD hd.hbytes 1) (U.isBytes_getD hd.hbytes 2) (U.isBytes_getD hd.hbytes 3)

theorem Bs.later {w w' : World} {a : Option Addr} {len cap : Nat} {l : List Int} (h : Bs w a len cap l) {B : Nat} (hb : Below B w w') (hB : w.heap.size ≤ B) : Bs w' a len cap l := by
  refine ⟨h.hlen, h.hcap, h.hmax, h.hbytes, fun i hi => ?_⟩
  obtain ⟨b, off, ha, hc⟩ := h.hcell i hi
  have hlt : b < w.heap.size := block_lt_of_cell hc
  exact ⟨b, off, ha, by rw [hb.cell (p := ⟨b, off + i, none⟩) (Nat.lt_of_lt_of_le hlt hB)]; exact hc⟩

end Go.Proofs.YtamefbpdnblbdaaGreatDoor

namespace Go.Proofs.YtamefbpdnblbdaaGreatDoor
open Go.RowKit
set_option linter.unusedVariables false

abbrev boxRg (lo hi : Int) : Obj := .cells #[.int .i64 lo, .int .i64 hi] 142

end Go.Proofs.YtamefbpdnblbdaaGreatDoor

namespace Go.Proofs.YtamefbpdnblbdaaGreatDoor
open Go.RowKit
set_option linter.unusedVariables false

namespace G
theorem endOf_mem {least : Int} {l : List (Int × Int)} (h : mayFrom least l = true) {r : Int × Int} (hr : r ∈ l) : r.2 + 2 ≤ endOf least l := by
  induction l generalizing least with
  | nil => cases hr
  | cons x t ih =>
    rw [mayFrom_cons] at h
    have e : ∀ (t : List (Int × Int)) (c : Int), mayFrom c t = true → c ≤ endOf c t := by
      intro t
      induction t with
      | nil => intro c _; exact Int.le_refl _
      | cons y u ihu => intro c hc; rw [mayFrom_cons] at hc; have := ihu _ hc.2.2.2; show c ≤ endOf (y.2 + 2) u; omega
    rcases List.mem_cons.1 hr with rfl | hr
    · exact e t _ h.2.2.2
    · exact ih h.2.2.2 hr

def sideA (l : List (Int × Int)) (n : Int) (i : Nat) : Prop := ∀ r ∈ l.take i, r.2 < n
def sideB (l : List (Int × Int)) (n : Int) (j : Nat) : Prop := ∀ r ∈ l.drop j, n ≤ r.2

theorem may_cut {l : List (Int × Int)} (h : mayB l = true) {k : Nat} {lo hi : Int} {t : List (Int × Int)} (hd : l.drop k = (lo, hi) :: t) : (∀ r ∈ l.take k, r.2 + 2 ≤ lo) ∧ lo ≤ hi ∧ mayFrom (hi + 2) t = true ∧ 0 ≤ lo ∧ hi ≤ 1114111 := by
  have e : l = l.take k ++ l.drop k := (List.take_append_drop k l).symm
  have m : (lo, hi) ∈ l := by rw [e, hd]; simp
  have b := may_mem h m
  unfold mayB at h
  rw [e, mayFrom_append, hd, mayFrom_cons] at h
  simp only at h b
  exact ⟨fun r hr => by have := endOf_mem h.1 hr; omega, h.2.2.1, h.2.2.2.2, b.1, b.2.2⟩

theorem sideA_step {l : List (Int × Int)} {n : Int} (h : mayB l = true) {k : Nat} {lo hi : Int} {t : List (Int × Int)} (hd : l.drop k = (lo, hi) :: t) (ht : l.take (k + 1) = l.take k ++ [(lo, hi)]) (hn : hi < n) : sideA l n (k + 1) := by
  obtain ⟨h1, h2, _⟩ := may_cut h hd
  intro r hr
  rw [ht] at hr
  rcases List.mem_append.1 hr with hr | hr
  · have := h1 r hr; omega
  · simp at hr; subst hr; exact hn
theorem sideB_step {l : List (Int × Int)} {n : Int} (h : mayB l = true) {k : Nat} {lo hi : Int} {t : List (Int × Int)} (hd : l.drop k = (lo, hi) :: t) (hn : n ≤ hi) : sideB l n k := by
  obtain ⟨_, h2, h3, _⟩ := may_cut h hd
  intro r hr
  rw [hd] at hr
  rcases List.mem_cons.1 hr with rfl | hr
  · exact hn
  · have := may_mem h3 hr; omega
theorem side_end {l : List (Int × Int)} {n : Int} {k : Nat} (ha : sideA l n k) : hasB l n = hasB (l.drop k) n := by
  have e : l = l.take k ++ l.drop k := (List.take_append_drop k l).symm
  have f : hasB (l.take k) n = false := by
    unfold hasB
    rw [List.any_eq_false]
    intro r hr
    have := ha r hr
    simp; omega
  rw [show hasB l n = hasB (l.take k ++ l.drop k) n by rw [← e], hasB_append, f, Bool.false_or]
theorem side_found {l : List (Int × Int)} {n : Int} (h : mayB l = true) {k : Nat} {lo hi : Int} {t : List (Int × Int)} (ha : sideA l n k) (hb : sideB l n k) (hd : l.drop k = (lo, hi) :: t) : hasB l n = decide (lo ≤ n) := by
  obtain ⟨_, h2, h3, _⟩ := may_cut h hd
  have := hb (lo, hi) (by rw [hd]; simp)
  simp only at this
  rw [side_end ha, hd, hasB_cons, has_low h3 (by omega)]
  simp [this]
end G

def sideI (lo hi n : Int) : Int := if hi < n then -1 else if n < lo then 1 else 0

set_option maxHeartbeats 400000 in
theorem side_any (lo hi n : Int) (w : World) :
    Calls Tryz.prog 203 #[.agg #[.int .i64 lo, .int .i64 hi], .int .i64 n] w fun e w' => e = .returned (.int .i64 (sideI lo hi n)) ∧ w' = w.alloc (boxRg lo hi) := by
  unfold sideI
  by_cases h1 : hi < n
  · rw [if_pos h1]
    go_enter Tryz.func203, Tryz.ntmps203
    go_wp2
    go_ret
    exact ⟨rfl, rfl⟩
  · rw [if_neg h1]
    by_cases h2 : n < lo
    · rw [if_pos h2]
      go_enter Tryz.func203, Tryz.ntmps203
      go_wp2
      go_ret
      exact ⟨rfl, rfl⟩
    · rw [if_neg h2]
      go_enter Tryz.func203, Tryz.ntmps203
      go_wp2
      go_ret
      exact ⟨rfl, rfl⟩

set_option maxHeartbeats 1000000 in
theorem search_any (a : Option Addr) (len cap : Nat) (l : List (Int × Int)) (n : Int) (w : World) (h : Rs w a len cap l) (hm : G.mayB l = true) (hs : len ≤ 1000000) :
    Calls Tryz.prog 202 #[.slice a len cap, .int .i64 n, .func (.func 203) #[] #[]] w fun e w' => (∃ r : Int, e = .returned (.tuple #[.int .i64 r, .bool (G.hasB l n)])) ∧ Below w.heap.size w w' := by
  have hl := h.hlen
  have hmax := h.hmax
  have hcap := h.hcap
  unfold maxLen at hmax
  go_enter Tryz.func202, Tryz.ntmps202
  go_wp2
  go_loopw [9, 10] (fun i j wr => ∃ (p q : Nat), p ≤ q ∧ q ≤ len ∧ i = .int .i64 p ∧ j = .int .i64 q ∧ Hid (G.sideA l n p ∧ G.sideB l n q) ∧ Below w.heap.size w wr) (fun i j _ => (intOf j).toNat - (intOf i).toNat)
  case atStart => exact ⟨0, len, Nat.zero_le _, Nat.le_refl _, rfl, rfl, by show _ ∧ _; exact ⟨fun r hr => by simp at hr, fun r hr => by rw [List.drop_of_length_le (by omega)] at hr; cases hr⟩, Below.refl _ _⟩
  case round =>
    obtain ⟨p, q, hpq, hq, rfl, rfl, hsd, hb⟩ := hrel
    by_cases hlt : p < q
    · obtain ⟨b, off, rfl, hr⟩ := (h.later hb (Nat.le_refl _)).open (by omega)
      obtain ⟨lo, hi, hd, htk, f1, f2, c0, c1⟩ := hr.at ((p + q) / 2) (by omega)
      have hA : Hid (hi < n → G.sideA l n ((p + q) / 2 + 1)) := fun hx => G.sideA_step hm hd htk hx
      have hB : Hid (n ≤ hi → G.sideB l n ((p + q) / 2)) := fun hx => G.sideB_step hm hd hx
      clear hd htk hr f1 f2
      by_cases t1 : hi < n
      · have hv : Hid (sideI lo hi n = -1) := by show _ = _; unfold sideI; rw [if_pos t1]
        go_wp2_with (go_at_call 203; refine (side_any _ _ _ _).mono ?_; rw [hv.out]; rintro e w' ⟨rfl, rfl⟩)
        go_roundw
        case rel => exact ⟨(p + q) / 2 + 1, q, by omega, hq, by go_num, rfl, ⟨hA.out t1, hsd.out.2⟩, hb.trans ((Below.new1 _).mono hb.size)⟩
        case measure => simp [intOf]; omega
      · by_cases t2 : n < lo
        · have hv : Hid (sideI lo hi n = 1) := by show _ = _; unfold sideI; rw [if_neg t1, if_pos t2]
          go_wp2_with (go_at_call 203; refine (side_any _ _ _ _).mono ?_; rw [hv.out]; rintro e w' ⟨rfl, rfl⟩)
          go_roundw
          case rel => exact ⟨p, (p + q) / 2, by omega, by omega, rfl, by go_num, ⟨hsd.out.1, hB.out (by omega)⟩, hb.trans ((Below.new1 _).mono hb.size)⟩
          case measure => simp [intOf]; omega
        · have hv : Hid (sideI lo hi n = 0) := by show _ = _; unfold sideI; rw [if_neg t1, if_neg t2]
          go_wp2_with (go_at_call 203; refine (side_any _ _ _ _).mono ?_; rw [hv.out]; rintro e w' ⟨rfl, rfl⟩)
          go_roundw
          case rel => exact ⟨p, (p + q) / 2, by omega, by omega, rfl, by go_num, ⟨hsd.out.1, hB.out (by omega)⟩, hb.trans ((Below.new1 _).mono hb.size)⟩
          case measure => simp [intOf]; omega
    · have hpq2 : q = p := by omega
      subst hpq2
      by_cases hin : q < len
      · obtain ⟨b, off, rfl, hr⟩ := (h.later hb (Nat.le_refl _)).open (by omega)
        obtain ⟨lo, hi, hd, -, f1, f2, c0, c1⟩ := hr.at q hin
        have hx : n ≤ hi := hsd.out.2 (lo, hi) (by rw [hd]; simp)
        have fin : Hid (G.hasB l n = decide (lo ≤ n)) := G.side_found hm hsd.out.1 hsd.out.2 hd
        clear hd hr f1 f2
        by_cases t2 : n < lo
        · have hv : Hid (sideI lo hi n = 1) := by show _ = _; unfold sideI; rw [if_neg (by omega), if_pos t2]
          go_wp2_with (go_at_call 203; refine (side_any _ _ _ _).mono ?_; rw [hv.out]; rintro e w' ⟨rfl, rfl⟩)
          go_ret2
          exact ⟨⟨_, by rw [fin.out, decide_eq_false (by omega)]; rfl⟩, hb.trans ((Below.new1 _).mono hb.size)⟩
        · have hv : Hid (sideI lo hi n = 0) := by show _ = _; unfold sideI; rw [if_neg (by omega), if_neg t2]
          go_wp2_with (go_at_call 203; refine (side_any _ _ _ _).mono ?_; rw [hv.out]; rintro e w' ⟨rfl, rfl⟩)
          go_ret2
          exact ⟨⟨_, by rw [fin.out, decide_eq_true (by omega)]; rfl⟩, hb.trans ((Below.new1 _).mono hb.size)⟩
      · have fin : Hid (G.hasB l n = false) := by
          show _ = _
          rw [G.side_end hsd.out.1, List.drop_of_length_le (by omega)]; rfl
        go_wp2
        go_ret2
        exact ⟨⟨_, by rw [fin.out]; rfl⟩, hb⟩

set_option maxHeartbeats 400000 in
theorem setHas_any (a : Option Addr) (len cap : Nat) (l : List (Int × Int)) (n : Int) (w : World) (h : Rs w a len cap l) (hm : G.mayB l = true) (hs : len ≤ 1000000) :
    Calls Tryz.prog 182 #[.slice a len cap, .int .i64 n] w fun e w' => e = .returned (.bool (G.hasB l n)) ∧ Below w.heap.size w w' := by
  have hc := search_any a len cap l n w h hm hs
  generalize G.hasB l n = r at *
  clear h hm
  go_enter Tryz.func182, Tryz.ntmps182
  go_wp2_with (go_at_call 202; refine hc.mono ?_; rintro e w' ⟨⟨x, rfl⟩, hb⟩)
  go_ret
  exact ⟨rfl, hb⟩

def bord (l : List (Int × Int)) (i : Nat) : Int := (G.bs l).getD i 1114113

theorem bord_end {l : List (Int × Int)} {i : Nat} (h : l.length ≤ i / 2) : bord l i = 1114113 := by
  unfold bord
  have := G.bs_length l
  rw [List.getD_eq_getElem?_getD, List.getElem?_eq_none (by omega)]; rfl
theorem bord_at {l : List (Int × Int)} {k : Nat} {lo hi : Int} {t : List (Int × Int)} (hd : l.drop k = (lo, hi) :: t) : bord l (2 * k) = lo ∧ bord l (2 * k + 1) = hi + 1 := by
  induction l generalizing k with
  | nil => simp at hd
  | cons r u ih =>
    cases k with
    | zero => simp at hd; obtain ⟨rfl, rfl⟩ := hd; simp [bord, G.bs]
    | succ k =>
      have := ih (k := k) (by simpa using hd)
      rw [show 2 * (k + 1) = 2 * k + 1 + 1 by omega, show 2 * k + 1 + 1 + 1 = (2 * k + 1) + 1 + 1 by omega]
      unfold bord at *
      simpa [G.bs] using this

set_option maxHeartbeats 400000 in
theorem border_any (a : Option Addr) (len cap : Nat) (l : List (Int × Int)) (i : Nat) (w : World) (h : Rs w a len cap l) (hm : G.mayB l = true) (hi : i ≤ 2000000) :
    Calls Tryz.prog 201 #[.slice a len cap, .int .i64 i] w fun e w' => e = .returned (.int .i64 (bord l i)) ∧ w' = w := by
  have hl := h.hlen
  have hmax := h.hmax
  have hcap := h.hcap
  unfold maxLen at hmax
  by_cases h1 : len ≤ i / 2
  · rw [bord_end (by omega)]
    have h1' : (len : Int) ≤ (i : Int) / 2 := by omega
    go_enter Tryz.func201, Tryz.ntmps201
    go_wp2
    go_ret
    exact ⟨rfl, rfl⟩
  · obtain ⟨b, off, rfl, hr⟩ := h.open (by omega)
    obtain ⟨lo, hi, hd, -, f1, f2, c0, c1⟩ := hr.at (i / 2) (by omega)
    have hb := bord_at hd
    obtain ⟨-, -, -, p0, p1⟩ := G.may_cut hm hd
    have q1 : lo ≤ hi := (G.may_cut hm hd).2.1
    have h1' : (i : Int) / 2 < (len : Int) := by omega
    clear hd hr f1 f2 h
    by_cases h2 : i % 2 = 0
    · have e : bord l i = lo := by rw [← hb.1]; congr 1; omega
      rw [e]
      clear hb e
      have h2' : (((i : Int) % 2) == 0) = true := by rw [beq_iff_eq]; omega
      go_enter Tryz.func201, Tryz.ntmps201
      go_wp2
      go_ret
      exact ⟨rfl, rfl⟩
    · have e : bord l i = hi + 1 := by rw [← hb.2]; congr 1; omega
      rw [e]
      clear hb e
      have h2' : (((i : Int) % 2) == 0) = false := by rw [beq_eq_false_iff_ne]; omega
      go_enter Tryz.func201, Tryz.ntmps201
      go_wp2
      go_ret
      exact ⟨rfl, rfl⟩

end Go.Proofs.YtamefbpdnblbdaaGreatDoor

namespace Go.Proofs.YtamefbpdnblbdaaGreatDoor
open Go.RowKit
set_option linter.unusedVariables false

structure Pr (w : World) (a : Option Addr) (la ca : Nat) (A : List (Int × Int)) (b : Option Addr) (lb cb : Nat) (B : List (Int × Int)) : Prop where
  ha : Rs w a la ca A
  hb : Rs w b lb cb B
  ma : G.mayB A = true
  mb : G.mayB B = true

theorem Pr.later {w w' : World} {a : Option Addr} {la ca : Nat} {A : List (Int × Int)} {b : Option Addr} {lb cb : Nat} {B : List (Int × Int)} (h : Pr w a la ca A b lb cb B) {k : Nat} (hb : Below k w w') (hk : w.heap.size ≤ k) : Pr w' a la ca A b lb cb B :=
  ⟨h.ha.later hb hk, h.hb.later hb hk, h.ma, h.mb⟩
theorem Pr.la {w : World} {a : Option Addr} {la ca : Nat} {A : List (Int × Int)} {b : Option Addr} {lb cb : Nat} {B : List (Int × Int)} (h : Pr w a la ca A b lb cb B) : la ≤ 1000000 := by
  have := h.ha.hlen; have := G.may_length h.ma; omega
theorem Pr.lb {w : World} {a : Option Addr} {la ca : Nat} {A : List (Int × Int)} {b : Option Addr} {lb cb : Nat} {B : List (Int × Int)} (h : Pr w a la ca A b lb cb B) : lb ≤ 1000000 := by
  have := h.hb.hlen; have := G.may_length h.mb; omega

abbrev boxPr (a : Option Addr) (la ca : Nat) (b : Option Addr) (lb cb : Nat) : Obj := .cells #[.slice a la ca, .slice b lb cb] 199

set_option maxHeartbeats 1000000 in
theorem less_any (a : Option Addr) (la ca : Nat) (A : List (Int × Int)) (b : Option Addr) (lb cb : Nat) (B : List (Int × Int)) (n : Int) (w : World) (h : Pr w a la ca A b lb cb B) :
    Calls Tryz.prog 160 #[.agg #[.slice a la ca, .slice b lb cb], .int .i64 n] w fun e w' => e = .returned (.bool ((fun x y => x && !y) (G.hasB A n) (G.hasB B n))) ∧ Below w.heap.size w w' := by
  have c1 := setHas_any a la ca A n _ (h.later (Below.new1 (boxPr a la ca b lb cb)) (Nat.le_refl _)).ha h.ma h.la
  have c2 := fun w1 (hb : Below w.heap.size w w1) => setHas_any b lb cb B n w1 (h.later hb (Nat.le_refl _)).hb h.mb h.lb
  generalize G.hasB A n = x at *
  generalize G.hasB B n = y at *
  clear h
  have C1 := hideR c1
  have C2 := hideR c2
  clear c1 c2
  cases x with
  | false =>
    go_enter Tryz.func160, Tryz.ntmps160
    go_wp2_with fail
    refine (unhideR C1).mono ?_
    rintro e w1 ⟨rfl, hb1⟩
    go_wp2_with fail
    go_ret
    refine ⟨ret_bool (by simp), ?_⟩
    simp only [World.size_alloc] at hb1
    exact (Below.new1 _).trans (hb1.mono (by omega))
  | true =>
    go_enter Tryz.func160, Tryz.ntmps160
    go_wp2_with fail
    refine (unhideR C1).mono ?_
    rintro e w1 ⟨rfl, hb1⟩
    have hb : Below w.heap.size w w1 := (Below.new1 _).trans (hb1.mono (by simp))
    obtain ⟨k1, k2⟩ : (w1.cell? ⟨w.heap.size, 0, none⟩ = some (.slice a la ca)) ∧ (w1.cell? ⟨w.heap.size, 1, none⟩ = some (.slice b lb cb)) :=
      ⟨by rw [hb1.cell (p := ⟨w.heap.size, 0, none⟩) (by simp)]; rw [World.cell?_alloc_at _ _ _ _ rfl]; rfl, by rw [hb1.cell (p := ⟨w.heap.size, 1, none⟩) (by simp)]; rw [World.cell?_alloc_at _ _ _ _ rfl]; rfl⟩
    go_wp2_with fail
    refine (unhideR C2 _ hb).mono ?_
    rintro e w2 ⟨rfl, hb2⟩
    go_wp2_with fail
    go_ret
    exact ⟨ret_bool (by simp), hb.trans (hb2.mono hb.size)⟩

end Go.Proofs.YtamefbpdnblbdaaGreatDoor

