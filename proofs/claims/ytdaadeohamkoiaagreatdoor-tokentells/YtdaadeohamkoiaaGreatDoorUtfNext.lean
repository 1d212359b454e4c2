/- Contracts of utf.Next and what it calls; of utf.Units. -/
import Derived.Test.YtdaadeohamkoiaaGreatDoorUtfPut
import Derived.Laws.EntriesVeiled
namespace Go.Proofs.YtdaadeohamkoiaaGreatDoor
open Go.RowKit
set_option linter.unusedVariables false

/-- What is told of a slice of bytes: its elements l, each in its cell. -/
structure Bs (w : World) (a : Option Addr) (len cap : Nat) (l : List Int) : Prop where
  hlen : l.length = len
  hcap : len ≤ cap
  hmax : cap ≤ maxLen
  hbytes : U.isBytes l
  hcell : ∀ i, i < len → ∃ b off, a = some ⟨b, off, none⟩ ∧ w.cell? ⟨b, off + i, none⟩ = some (.int .u8 (l.getD i 0))

/-- The same where there is one byte at least: the address written out. -/
structure Bb (w : World) (b off len cap : Nat) (l : List Int) : Prop where
  hlen : l.length = len
  hpos : 1 ≤ len
  hcap : len ≤ cap
  hmax : cap ≤ maxLen
  hbytes : U.isBytes l
  hcell : ∀ i, i < len → w.cell? ⟨b, off + i, none⟩ = some (.int .u8 (l.getD i 0))

theorem Bs.open {w : World} {a : Option Addr} {len cap : Nat} {l : List Int} (h : Bs w a len cap l) (hp : 1 ≤ len) : ∃ b off, a = some ⟨b, off, none⟩ ∧ Bb w b off len cap l := by
  obtain ⟨b, off, ha, hc⟩ := h.hcell 0 (by omega)
  refine ⟨b, off, ha, h.hlen, hp, h.hcap, h.hmax, h.hbytes, fun i hi => ?_⟩
  obtain ⟨b', off', ha', hc'⟩ := h.hcell i hi
  rw [ha] at ha'
  injection ha' with e
  injection e with e1 e2
  subst e1; subst e2
  exact hc'

theorem Bb.drop {w : World} {b off len cap : Nat} {l : List Int} (h : Bb w b off len cap l) (k : Nat) (hk : k < len) : Bb w b (off + k) (len - k) (cap - k) (l.drop k) := by
  have h1 := h.hcap
  have h2 := h.hmax
  refine ⟨by rw [List.length_drop, h.hlen], by omega, by omega, by omega, U.isBytes_drop h.hbytes k, fun i hi => ?_⟩
  have := h.hcell (k + i) (by omega)
  rw [Nat.add_assoc, this]
  simp [List.getD]

set_option maxHeartbeats 400000 in
theorem many_any (b off len cap : Nat) (w : World) (c : Int) (m : Nat) (hm : U.manyN c = m) (hp : (0 : Int) < (len : Int)) (hc : w.cell? ⟨b, off, none⟩ = some (.int .u8 c)) (hb : 0 ≤ c ∧ c ≤ 255) :
    Calls Tryz.prog 153 #[.slice (some ⟨b, off, none⟩) len cap] w fun e w' => e = .returned (.int .i64 m) ∧ w' = w := by
    unfold U.manyN at hm
    by_cases c1 : c < 128
    · rw [if_pos c1] at hm; subst hm
      go_enter Tryz.func153, Tryz.ntmps153
      go_wp2
      go_ret
      exact ⟨rfl, rfl⟩
    rw [if_neg c1] at hm
    by_cases c2 : c < 192
    · rw [if_pos c2] at hm; subst hm
      go_enter Tryz.func153, Tryz.ntmps153
      go_wp2
      go_ret
      exact ⟨rfl, rfl⟩
    rw [if_neg c2] at hm
    by_cases c3 : c < 224
    · rw [if_pos c3] at hm; subst hm
      go_enter Tryz.func153, Tryz.ntmps153
      go_wp2
      go_ret
      exact ⟨rfl, rfl⟩
    rw [if_neg c3] at hm
    by_cases c4 : c < 240
    · rw [if_pos c4] at hm; subst hm
      go_enter Tryz.func153, Tryz.ntmps153
      go_wp2
      go_ret
      exact ⟨rfl, rfl⟩
    rw [if_neg c4] at hm
    by_cases c5 : c < 248
    · rw [if_pos c5] at hm; subst hm
      go_enter Tryz.func153, Tryz.ntmps153
      go_wp2
      go_ret
      exact ⟨rfl, rfl⟩
    · rw [if_neg c5] at hm; subst hm
      go_enter Tryz.func153, Tryz.ntmps153
      go_wp2
      go_ret
      exact ⟨rfl, rfl⟩

set_option maxHeartbeats 400000 in
theorem scalarFrom_any (least r : Int) (w : World) :
    Calls Tryz.prog 201 #[.int .i64 least, .int .i64 r] w fun e w' => e = .returned (.int .i64 (U.fromN least r)) ∧ w' = w := by
  have key : ∀ m : Int, U.fromN least r = m → Calls Tryz.prog 201 #[.int .i64 least, .int .i64 r] w fun e w' => e = .returned (.int .i64 m) ∧ w' = w := by
    intro m hm
    unfold U.fromN at hm
    by_cases c1 : r < least
    · rw [if_pos (Or.inl c1)] at hm; subst hm
      go_enter Tryz.func201, Tryz.ntmps201
      go_wp2
      go_ret
      exact ⟨rfl, rfl⟩
    · cases c2 : U.mayB r
      · rw [if_pos (Or.inr c2)] at hm; subst hm
        go_enter Tryz.func201, Tryz.ntmps201
        go_wp2_with (go_at_call 152; refine (may_any _ _).mono ?_; rintro e w' ⟨rfl, rfl⟩)
        go_ret
        exact ⟨rfl, rfl⟩
      · rw [if_neg (by simp [c2]; omega)] at hm; subst hm
        go_enter Tryz.func201, Tryz.ntmps201
        go_wp2_with (go_at_call 152; refine (may_any _ _).mono ?_; rintro e w' ⟨rfl, rfl⟩)
        go_ret
        exact ⟨rfl, rfl⟩
  exact key _ rfl

set_option maxHeartbeats 400000 in
theorem add_any (b off len cap : Nat) (w : World) (high i c : Int) (n : Nat) (hi : i = (n : Int)) (hn : n < len) (hlen : len ≤ maxLen) (hc : w.cell? ⟨b, off + n, none⟩ = some (.int .u8 c)) (hb : 0 ≤ c ∧ c ≤ 255) (hh : -300 ≤ high) (hh2 : high ≤ 10000000) :
    Calls Tryz.prog 202 #[.slice (some ⟨b, off, none⟩) len cap, .int .i64 high, .int .i64 i] w fun e w' => e = .returned (.int .i64 (U.addN high c)) ∧ w' = w := by
  subst hi
  have hm : len ≤ 9223372036854775807 := by unfold maxLen at hlen; omega
  clear hlen
  have key : ∀ m : Int, U.addN high c = m → Calls Tryz.prog 202 #[.slice (some ⟨b, off, none⟩) len cap, .int .i64 high, .int .i64 n] w fun e w' => e = .returned (.int .i64 m) ∧ w' = w := by
    intro m hm'
    unfold U.addN at hm'
    by_cases c1 : high < 0
    · rw [if_pos (Or.inl c1)] at hm'; subst hm'
      go_enter Tryz.func202, Tryz.ntmps202
      go_wp2
      go_ret
      exact ⟨rfl, rfl⟩
    · by_cases c2 : c / 64 = 2
      · rw [if_neg (by omega)] at hm'; subst hm'
        have c3 : (c / 64 != 2) = false := by simp [c2]
        clear c2
        go_enter Tryz.func202, Tryz.ntmps202
        go_wp2
        go_ret
        exact ⟨rfl, rfl⟩
      · rw [if_pos (Or.inr c2)] at hm'; subst hm'
        have c3 : (c / 64 != 2) = true := by simp [c2]
        clear c2
        go_enter Tryz.func202, Tryz.ntmps202
        go_wp2
        go_ret
        exact ⟨rfl, rfl⟩
  exact key _ rfl

theorem addN_bd (h z : Int) (_hz : 0 ≤ z) : -1 ≤ U.addN h z ∧ (U.addN h z ≤ h * 64 + 63 ∨ U.addN h z = -1) := by
  unfold U.addN; split <;> omega

set_option maxHeartbeats 400000 in
theorem two_any (b off len cap : Nat) (w : World) (c0 c1 : Int) (hn : 2 ≤ len) (hlen : len ≤ maxLen) (k0 : w.cell? ⟨b, off, none⟩ = some (.int .u8 c0)) (k1 : w.cell? ⟨b, off + 1, none⟩ = some (.int .u8 c1)) (b0 : 0 ≤ c0 ∧ c0 ≤ 255) (b1 : 0 ≤ c1 ∧ c1 ≤ 255) :
    Calls Tryz.prog 174 #[.slice (some ⟨b, off, none⟩) len cap] w fun e w' => e = .returned (.int .i64 (U.fromN 128 (U.addN (c0 - 192) c1))) ∧ w' = w := by
  have hp : (0 : Int) < (len : Int) := by omega
  go_enter Tryz.func174, Tryz.ntmps174
  go_wp2_with (first | (go_at_call 202; refine (add_any b off len cap _ _ _ c1 1 rfl (by omega) hlen k1 b1 (by omega) (by omega)).mono ?_; rintro e w' ⟨rfl, rfl⟩) | (go_at_call 201; refine (scalarFrom_any _ _ _).mono ?_; rintro e w' ⟨rfl, rfl⟩))
  go_ret
  exact ⟨rfl, rfl⟩

set_option maxHeartbeats 400000 in
theorem three_any (b off len cap : Nat) (w : World) (c0 c1 c2 : Int) (hn : 3 ≤ len) (hlen : len ≤ maxLen) (k0 : w.cell? ⟨b, off, none⟩ = some (.int .u8 c0)) (k1 : w.cell? ⟨b, off + 1, none⟩ = some (.int .u8 c1)) (k2 : w.cell? ⟨b, off + 2, none⟩ = some (.int .u8 c2)) (b0 : 0 ≤ c0 ∧ c0 ≤ 255) (b1 : 0 ≤ c1 ∧ c1 ≤ 255) (b2 : 0 ≤ c2 ∧ c2 ≤ 255) :
    Calls Tryz.prog 175 #[.slice (some ⟨b, off, none⟩) len cap] w fun e w' => e = .returned (.int .i64 (U.fromN 2048 (U.addN (U.addN (c0 - 224) c1) c2))) ∧ w' = w := by
  have hp : (0 : Int) < (len : Int) := by omega
  have h1 := addN_bd (c0 - 224) c1 b1.1
  go_enter Tryz.func175, Tryz.ntmps175
  go_wp2_with fail
  refine (add_any b off len cap _ _ _ c1 1 rfl (by omega) hlen k1 b1 (by omega) (by omega)).mono ?_
  rintro e w' ⟨rfl, rfl⟩
  go_wp2_with fail
  refine (add_any b off len cap _ _ _ c2 2 rfl (by omega) hlen k2 b2 (by omega) (by omega)).mono ?_
  rintro e w' ⟨rfl, rfl⟩
  go_wp2_with (go_at_call 201; refine (scalarFrom_any _ _ _).mono ?_; rintro e w' ⟨rfl, rfl⟩)
  go_ret
  exact ⟨rfl, rfl⟩

set_option maxHeartbeats 400000 in
theorem four_any (b off len cap : Nat) (w : World) (c0 c1 c2 c3 : Int) (hn : 4 ≤ len) (hlen : len ≤ maxLen) (k0 : w.cell? ⟨b, off, none⟩ = some (.int .u8 c0)) (k1 : w.cell? ⟨b, off + 1, none⟩ = some (.int .u8 c1)) (k2 : w.cell? ⟨b, off + 2, none⟩ = some (.int .u8 c2)) (k3 : w.cell? ⟨b, off + 3, none⟩ = some (.int .u8 c3)) (b0 : 0 ≤ c0 ∧ c0 ≤ 255) (b1 : 0 ≤ c1 ∧ c1 ≤ 255) (b2 : 0 ≤ c2 ∧ c2 ≤ 255) (b3 : 0 ≤ c3 ∧ c3 ≤ 255) :
    Calls Tryz.prog 176 #[.slice (some ⟨b, off, none⟩) len cap] w fun e w' => e = .returned (.int .i64 (U.fromN 65536 (U.addN (U.addN (U.addN (c0 - 240) c1) c2) c3))) ∧ w' = w := by
  have hp : (0 : Int) < (len : Int) := by omega
  have h1 := addN_bd (c0 - 240) c1 b1.1
  have h2 := addN_bd (U.addN (c0 - 240) c1) c2 b2.1
  go_enter Tryz.func176, Tryz.ntmps176
  go_wp2_with fail
  refine (add_any b off len cap _ _ _ c1 1 rfl (by omega) hlen k1 b1 (by omega) (by omega)).mono ?_
  rintro e w' ⟨rfl, rfl⟩
  go_wp2_with fail
  refine (add_any b off len cap _ _ _ c2 2 rfl (by omega) hlen k2 b2 (by omega) (by omega)).mono ?_
  rintro e w' ⟨rfl, rfl⟩
  go_wp2_with fail
  refine (add_any b off len cap _ _ _ c3 3 rfl (by omega) hlen k3 b3 (by omega) (by omega)).mono ?_
  rintro e w' ⟨rfl, rfl⟩
  go_wp2_with (go_at_call 201; refine (scalarFrom_any _ _ _).mono ?_; rintro e w' ⟨rfl, rfl⟩)
  go_ret
  exact ⟨rfl, rfl⟩

set_option maxHeartbeats 400000 in
theorem one_any (b off len cap : Nat) (w : World) (c0 : Int) (hn : 1 ≤ len) (k0 : w.cell? ⟨b, off, none⟩ = some (.int .u8 c0)) (b0 : 0 ≤ c0 ∧ c0 ≤ 255) :
    Calls Tryz.prog 173 #[.slice (some ⟨b, off, none⟩) len cap] w fun e w' => e = .returned (.int .i64 c0) ∧ w' = w := by
  have hp : (0 : Int) < (len : Int) := by omega
  go_enter Tryz.func173, Tryz.ntmps173
  go_wp2
  go_ret
  exact ⟨rfl, rfl⟩

set_option maxHeartbeats 400000 in
theorem none_any (b off len cap : Nat) (w : World) :
    Calls Tryz.prog 172 #[.slice (some ⟨b, off, none⟩) len cap] w fun e w' => e = .returned (.int .i64 (-1)) ∧ w' = w := by
  go_enter Tryz.func172, Tryz.ntmps172
  go_wp2
  go_ret
  exact ⟨rfl, rfl⟩

def readersObj : Obj := .cells #[.func (.func 172) #[] #[], .func (.func 173) #[] #[], .func (.func 174) #[] #[], .func (.func 175) #[] #[], .func (.func 176) #[] #[]] 184

set_option maxHeartbeats 400000 in
theorem readers_any (w : World) :
    Calls Tryz.prog 154 #[] w fun e w' => e = .returned (.agg #[.func (.func 172) #[] #[], .func (.func 173) #[] #[], .func (.func 174) #[] #[], .func (.func 175) #[] #[], .func (.func 176) #[] #[]]) ∧ w' = w.alloc readersObj := by
  unfold readersObj
  go_enter Tryz.func154, Tryz.ntmps154
  go_wp2
  exact bodyPost_ret (v := .agg #[.func (.func 172) #[] #[], .func (.func 173) #[] #[], .func (.func 174) #[] #[], .func (.func 175) #[] #[], .func (.func 176) #[] #[]]) (by simp [results, Tryz.results154, go_sem]) rfl ⟨rfl, rfl⟩

set_option maxHeartbeats 400000 in
theorem next_out (a : Option Addr) (len cap : Nat) (w : World) (at' : Int) (h : at' < 0 ∨ (len : Int) ≤ at') :
    Calls Tryz.prog 127 #[.slice a len cap, .int .i64 at'] w fun e w' => e = .returned (.tuple #[.int .i64 (-1), .int .i64 0]) ∧ w' = w := by
  by_cases h0 : at' < 0
  · go_enter Tryz.func127, Tryz.ntmps127
    go_wp2
    go_ret2
    exact ⟨rfl, rfl⟩
  · have h1 : (len : Int) ≤ at' := by omega
    clear h
    go_enter Tryz.func127, Tryz.ntmps127
    go_wp2
    go_ret2
    exact ⟨rfl, rfl⟩

set_option maxHeartbeats 400000 in
theorem next_short (b off len cap : Nat) (w : World) (n m : Nat) (c : Int) (hm : U.manyN c = m) (hn : n < len) (hcap : len ≤ cap) (hmax : cap ≤ maxLen) (hc : w.cell? ⟨b, off + n, none⟩ = some (.int .u8 c)) (hb : 0 ≤ c ∧ c ≤ 255) (hs : len - n < m) :
    Calls Tryz.prog 127 #[.slice (some ⟨b, off, none⟩) len cap, .int .i64 n] w fun e w' => e = .returned (.tuple #[.int .i64 (-1), .int .i64 1]) ∧ w' = w := by
  unfold maxLen at hmax
  have HM : Hid (U.manyN c = m) := hm
  clear hm
  have hne : ¬ cap = n := by omega
  go_enter Tryz.func127, Tryz.ntmps127
  go_wp2_with (go_at_call 153; refine (many_any _ _ _ _ _ c m HM.out (by omega) hc hb).mono ?_; rintro e w' ⟨rfl, rfl⟩)
  go_ret2
  exact ⟨rfl, rfl⟩

theorem hideC {p : Prop} (h : p) : Hid p := h
theorem unhideC {p : Prop} (h : Hid p) : p := h
set_option maxHeartbeats 1000000 in
/-- Where there are bytes enough: what reader m answers decides. -/
theorem next_long (b off len cap : Nat) (w : World) (n m : Nat) (c r : Int) (hm : U.manyN c = m) (hn : n < len) (hcap : len ≤ cap) (hmax : cap ≤ maxLen) (hc : w.cell? ⟨b, off + n, none⟩ = some (.int .u8 c)) (hb : 0 ≤ c ∧ c ≤ 255) (hs : m ≤ len - n)
    (f : Nat) (hf : (m = 0 ∧ f = 172) ∨ (m = 1 ∧ f = 173) ∨ (m = 2 ∧ f = 174) ∨ (m = 3 ∧ f = 175) ∨ (m = 4 ∧ f = 176))
    (hr : Calls Tryz.prog f #[.slice (some ⟨b, off + n, none⟩) (len - n) (cap - n)] (w.alloc readersObj) fun e w' => e = .returned (.int .i64 r) ∧ w' = w.alloc readersObj) (x : Int) (k : Nat) (hx : (r < 0 ∧ x = -1 ∧ k = 1) ∨ (0 ≤ r ∧ x = r ∧ k = m)) :
    Calls Tryz.prog 127 #[.slice (some ⟨b, off, none⟩) len cap, .int .i64 n] w fun e w' => e = .returned (.tuple #[.int .i64 x, .int .i64 k]) ∧ w' = w.alloc readersObj := by
  unfold maxLen at hmax
  have hne : ¬ cap = n := by omega
  rcases hf with ⟨rfl, rfl⟩ | ⟨rfl, rfl⟩ | ⟨rfl, rfl⟩ | ⟨rfl, rfl⟩ | ⟨rfl, rfl⟩
  · have HM : Hid (U.manyN c = 0) := hm
    clear hm
    have HR := hideC hr
    clear hr
    have ix : ∀ w, (Instr.index 184 (.agg #[.func (.func 172) #[] #[], .func (.func 173) #[] #[], .func (.func 174) #[] #[], .func (.func 175) #[] #[], .func (.func 176) #[] #[]]) (.int .i64 0)).run Tryz.prog w = .ok (.func (.func 172) #[] #[]) w := fun _ => by kernel_rfl
    rcases hx with ⟨hx1, rfl, rfl⟩ | ⟨hx1, rfl, rfl⟩
    all_goals
      go_enter Tryz.func127, Tryz.ntmps127
      go_wp2_with fail
      refine (many_any _ _ _ _ _ c 0 HM.out (by omega) hc hb).mono ?_
      rintro e w' ⟨rfl, rfl⟩
      go_wp2_with fail
      refine (readers_any _).mono ?_
      rintro e w' ⟨rfl, rfl⟩
      go_wp2_with fail
      refine (unhideC HR).mono ?_
      rintro e w' ⟨rfl, rfl⟩
      go_wp2_with fail
      go_ret2
      exact ⟨rfl, rfl⟩
  · have HM : Hid (U.manyN c = 1) := hm
    clear hm
    have HR := hideC hr
    clear hr
    have ix : ∀ w, (Instr.index 184 (.agg #[.func (.func 172) #[] #[], .func (.func 173) #[] #[], .func (.func 174) #[] #[], .func (.func 175) #[] #[], .func (.func 176) #[] #[]]) (.int .i64 1)).run Tryz.prog w = .ok (.func (.func 173) #[] #[]) w := fun _ => by kernel_rfl
    rcases hx with ⟨hx1, rfl, rfl⟩ | ⟨hx1, rfl, rfl⟩
    all_goals
      go_enter Tryz.func127, Tryz.ntmps127
      go_wp2_with fail
      refine (many_any _ _ _ _ _ c 1 HM.out (by omega) hc hb).mono ?_
      rintro e w' ⟨rfl, rfl⟩
      go_wp2_with fail
      refine (readers_any _).mono ?_
      rintro e w' ⟨rfl, rfl⟩
      go_wp2_with fail
      refine (unhideC HR).mono ?_
      rintro e w' ⟨rfl, rfl⟩
      go_wp2_with fail
      go_ret2
      exact ⟨rfl, rfl⟩
  · have HM : Hid (U.manyN c = 2) := hm
    clear hm
    have HR := hideC hr
    clear hr
    have ix : ∀ w, (Instr.index 184 (.agg #[.func (.func 172) #[] #[], .func (.func 173) #[] #[], .func (.func 174) #[] #[], .func (.func 175) #[] #[], .func (.func 176) #[] #[]]) (.int .i64 2)).run Tryz.prog w = .ok (.func (.func 174) #[] #[]) w := fun _ => by kernel_rfl
    rcases hx with ⟨hx1, rfl, rfl⟩ | ⟨hx1, rfl, rfl⟩
    all_goals
      go_enter Tryz.func127, Tryz.ntmps127
      go_wp2_with fail
      refine (many_any _ _ _ _ _ c 2 HM.out (by omega) hc hb).mono ?_
      rintro e w' ⟨rfl, rfl⟩
      go_wp2_with fail
      refine (readers_any _).mono ?_
      rintro e w' ⟨rfl, rfl⟩
      go_wp2_with fail
      refine (unhideC HR).mono ?_
      rintro e w' ⟨rfl, rfl⟩
      go_wp2_with fail
      go_ret2
      exact ⟨rfl, rfl⟩
  · have HM : Hid (U.manyN c = 3) := hm
    clear hm
    have HR := hideC hr
    clear hr
    have ix : ∀ w, (Instr.index 184 (.agg #[.func (.func 172) #[] #[], .func (.func 173) #[] #[], .func (.func 174) #[] #[], .func (.func 175) #[] #[], .func (.func 176) #[] #[]]) (.int .i64 3)).run Tryz.prog w = .ok (.func (.func 175) #[] #[]) w := fun _ => by kernel_rfl
    rcases hx with ⟨hx1, rfl, rfl⟩ | ⟨hx1, rfl, rfl⟩
    all_goals
      go_enter Tryz.func127, Tryz.ntmps127
      go_wp2_with fail
      refine (many_any _ _ _ _ _ c 3 HM.out (by omega) hc hb).mono ?_
      rintro e w' ⟨rfl, rfl⟩
      go_wp2_with fail
      refine (readers_any _).mono ?_
      rintro e w' ⟨rfl, rfl⟩
      go_wp2_with fail
      refine (unhideC HR).mono ?_
      rintro e w' ⟨rfl, rfl⟩
      go_wp2_with fail
      go_ret2
      exact ⟨rfl, rfl⟩
  · have HM : Hid (U.manyN c = 4) := hm
    clear hm
    have HR := hideC hr
    clear hr
    have ix : ∀ w, (Instr.index 184 (.agg #[.func (.func 172) #[] #[], .func (.func 173) #[] #[], .func (.func 174) #[] #[], .func (.func 175) #[] #[], .func (.func 176) #[] #[]]) (.int .i64 4)).run Tryz.prog w = .ok (.func (.func 176) #[] #[]) w := fun _ => by kernel_rfl
    rcases hx with ⟨hx1, rfl, rfl⟩ | ⟨hx1, rfl, rfl⟩
    all_goals
      go_enter Tryz.func127, Tryz.ntmps127
      go_wp2_with fail
      refine (many_any _ _ _ _ _ c 4 HM.out (by omega) hc hb).mono ?_
      rintro e w' ⟨rfl, rfl⟩
      go_wp2_with fail
      refine (readers_any _).mono ?_
      rintro e w' ⟨rfl, rfl⟩
      go_wp2_with fail
      refine (unhideC HR).mono ?_
      rintro e w' ⟨rfl, rfl⟩
      go_wp2_with fail
      go_ret2
      exact ⟨rfl, rfl⟩

end Go.Proofs.YtdaadeohamkoiaaGreatDoor
