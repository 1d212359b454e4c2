/- Parts of the proof of FlatText that stand ahead of it (4). -/
import Derived.Test.YtfcfcgeodghmpaaGreatDoorFlatTextMore3
import Derived.Lib.OthersKept
import Derived.Carry
import Derived.Laws.StructEq
import Derived.Deep.QuietTactic
import Derived.BigQuiet
import Derived.BigRegion
import Derived.Laws.BitsLemmas
import Derived.RangeFuncBox
import Derived.Laws.Bits64
import Derived.Deep.RegionHeld3
import Derived.Deep.AppendLies
import Derived.Recover
namespace Go.Proofs.YtfcfcgeodghmpaaGreatDoor.T
open Go.RowKit
set_option linter.unusedVariables false
set_option linter.unusedSimpArgs false

def Mp (w : World) (b : Nat) (f : Int → Option Nat) : Prop :=
  ∃ es clock, w.heap[b]? = some (.map es clock) ∧ ∀ c : Int, (f c = none ∧ Instr.findNow (.int .u8) (.int .u8 c) es.toList 0 = some none) ∨ ∃ g i, f c = some g ∧ Instr.findNow (.int .u8) (.int .u8 c) es.toList 0 = some (some (i, .func (.func g) #[] #[]))
theorem find_app (kind : TypeDesc) (k : Value) : ∀ (es : List MapEntry) (e : MapEntry) (n : Nat), Instr.findNow kind k (es ++ [e]) n = match Instr.findNow kind k es n with
    | some none => Instr.findNow kind k [e] (n + es.length)
    | r => r := by
  intro es
  induction es with
  | nil => intro e n; simp [Instr.findNow]
  | cons x t ih =>
    intro e n
    rw [List.cons_append]
    unfold Instr.findNow
    cases h : Instr.sameNow kind k x.key with
    | none => rfl
    | some b =>
      cases b with
      | true => rfl
      | false =>
        simp only
        rw [ih]
        cases h2 : Instr.findNow kind k t (n + 1) with
        | none => rfl
        | some r =>
          cases r with
          | none =>
            simp only [List.length_cons]
            rw [show n + 1 + t.length = n + (t.length + 1) by omega]
            unfold Instr.findNow
            rfl
          | some q => rfl
theorem Mp.new (w : World) : Mp (w.alloc (.map #[] 0)) w.heap.size (fun _ => none) := ⟨#[], 0, heap_alloc_new w _, fun c => .inl ⟨rfl, rfl⟩⟩
def upd (f : Int → Option Nat) (c : Int) (g : Nat) : Int → Option Nat := fun x => if x = c then some g else f x
theorem Mp.keep {w w' : World} {b : Nat} {f : Int → Option Nat} (h : Mp w b f) (e : w'.heap[b]? = w.heap[b]?) : Mp w' b f := by
  obtain ⟨es, clock, hb, hf⟩ := h
  exact ⟨es, clock, e.trans hb, hf⟩
theorem Mp.later {w w' : World} {b : Nat} {f : Int → Option Nat} (h : Mp w b f) (hb : Below w.heap.size w w') : Mp w' b f := by
  obtain ⟨es, clock, h1, hf⟩ := h
  exact ⟨es, clock, (hb.block b (Array.getElem?_eq_some_iff.1 h1).1).trans h1, hf⟩
theorem Mp.lt {w : World} {b : Nat} {f : Int → Option Nat} (h : Mp w b f) : b < w.heap.size := by
  obtain ⟨es, clock, h1, hf⟩ := h
  exact (Array.getElem?_eq_some_iff.1 h1).1
theorem ck_byte (e : Bool) (c : Int) (W : World) : (Instr.checkKey e 10000 5 (.int .u8 c)).run Tryz.prog W = .ok () W := by
  show (Instr.checkKey e (9999 + 1) 5 (.int .u8 c)).run Tryz.prog W = .ok () W
  rw [Instr.checkKey]
  simp [run_underlying Tryz.underlying5]
theorem Mp.put {w : World} {b : Nat} {f : Int → Option Nat} (h : Mp w b f) (c : Int) (g : Nat) (hc : f c = none) :
    ∃ w', (Instr.mapUpdate 98 (.map (some b)) (.int .u8 c) (.func (.func g) #[] #[])).run Tryz.prog w = .ok () w' ∧ Mp w' b (upd f c g) ∧ w'.heap.size = w.heap.size ∧ (∀ k, k ≠ b → w'.heap[k]? = w.heap[k]?) ∧ w'.os = w.os ∧ w'.tape = w.tape ∧ w'.output = w.output := by
  obtain ⟨es, clock, hb, hf⟩ := h
  have hlt := (Array.getElem?_eq_some_iff.1 hb).1
  have hnow : Instr.findNow (.int .u8) (.int .u8 c) es.toList 0 = some none := by
    rcases hf c with ⟨_, h⟩ | ⟨g', i, h, _⟩
    · exact h
    · rw [hc] at h; cases h
  refine ⟨{ w with heap := w.heap.setIfInBounds b (.map (es.push { key := .int .u8 c, val := .func (.func g) #[] #[], born := clock }) (clock + 1)) }, ?_, ?_, by simp, fun k hk => by simp [Array.getElem?_setIfInBounds, Ne.symm hk], rfl, rfl, rfl⟩
  · simp [Instr.mapUpdate, run_underlying Tryz.underlying98, getObj, setObj, hb, ck_byte, run_underlying Tryz.underlying5, Instr.findKey, hnow, Sem.run]
  · refine ⟨es.push { key := .int .u8 c, val := .func (.func g) #[] #[], born := clock }, clock + 1, by simp [Array.getElem?_setIfInBounds, hlt], fun x => ?_⟩
    rw [Array.toList_push, find_app]
    unfold upd
    by_cases e : x = c
    · subst e
      rw [hnow, if_pos rfl]
      exact .inr ⟨g, _, rfl, by simp [Instr.findNow, Instr.sameNow]; rfl⟩
    · rw [if_neg e]
      rcases hf x with ⟨h1, h2⟩ | ⟨g', i, h1, h2⟩
      · refine .inl ⟨h1, ?_⟩
        rw [h2]
        have : (x == c) = false := beq_eq_false_iff_ne.2 e
        simp [Instr.findNow, Instr.sameNow, this]
      · exact .inr ⟨g', i, h1, by rw [h2]⟩
theorem Mp.get {w : World} {b : Nat} {f : Int → Option Nat} (h : Mp w b f) (c : Int) :
    (Instr.lookup 98 (.map (some b)) (.int .u8 c) true).run Tryz.prog w = .ok (.tuple #[match f c with | none => .nilFunc | some g => .func (.func g) #[] #[], .bool (f c).isSome]) w := by
  obtain ⟨es, clock, hb, hf⟩ := h
  have hz : (zeroValue 130).run Tryz.prog w = .ok .nilFunc w := by kernel_rfl
  rcases hf c with ⟨h1, h2⟩ | ⟨g, i, h1, h2⟩
  · simp [Instr.lookup, run_underlying Tryz.underlying98, getObj, hb, ck_byte, run_underlying Tryz.underlying5, Instr.findKey, h2, h1, hz, Sem.run]
  · simp [Instr.lookup, run_underlying Tryz.underlying98, getObj, hb, ck_byte, run_underlying Tryz.underlying5, Instr.findKey, h2, h1, Sem.run]
end Go.Proofs.YtfcfcgeodghmpaaGreatDoor.T

/- Contracts of package token: readers, and the token that a tail begins by. -/
namespace Go.Proofs.YtfcfcgeodghmpaaGreatDoor.T
open Go.RowKit
set_option linter.unusedVariables false
set_option linter.unusedSimpArgs false

def f4 : Int → Option Nat := upd (upd (upd (upd (fun _ => none) 64 75) 34 76) 91 77) 60 78
def fL (k : Nat) : Int → Option Nat := fun c => if 97 ≤ c ∧ c < 97 + (k : Int) then some 79 else f4 c
def fS (p : Nat) : Int → Option Nat := fun c => if c ∈ signs.take p then some 80 else fL 26 c
theorem fL_zero : fL 0 = f4 := by
  funext c
  unfold fL
  rw [if_neg (by omega)]
theorem fL_step (k : Nat) : upd (fL k) (97 + (k : Int)) 79 = fL (k + 1) := by
  funext c
  unfold upd fL
  by_cases h : c = 97 + (k : Int)
  · rw [if_pos h, if_pos (by omega)]
  · rw [if_neg h]
    by_cases h2 : 97 ≤ c ∧ c < 97 + (k : Int)
    · rw [if_pos h2, if_pos (by omega)]
    · rw [if_neg h2, if_neg (by omega)]
theorem fL_new (k : Nat) (hk : k < 26) : fL k (97 + (k : Int)) = none := by
  unfold fL f4 upd
  rw [if_neg (by omega), if_neg (by omega), if_neg (by omega), if_neg (by omega), if_neg (by omega)]
theorem fS_zero : fS 0 = fL 26 := by
  funext c
  unfold fS
  rw [if_neg (by simp)]
theorem fS_step (p : Nat) (hp : p < 10) : upd (fS p) (signs.getD p 0) 80 = fS (p + 1) := by
  funext c
  have e : signs.take (p + 1) = signs.take p ++ [signs.getD p 0] := by
    have : ∀ q : Fin 10, signs.take (q.val + 1) = signs.take q.val ++ [signs.getD q.val 0] := by decide
    exact this ⟨p, hp⟩
  unfold upd fS
  rw [e]
  by_cases h : c = signs.getD p 0
  · rw [if_pos h, if_pos (by rw [h]; simp)]
  · rw [if_neg h]
    by_cases h2 : c ∈ signs.take p
    · rw [if_pos h2, if_pos (List.mem_append_left _ h2)]
    · rw [if_neg h2, if_neg (by intro x; rcases List.mem_append.1 x with x | x; exact h2 x; exact h (by simpa using x))]
theorem fS_new (p : Nat) (hp : p < 10) : fS p (signs.getD p 0) = none := by
  have : ∀ q : Fin 10, fS q.val (signs.getD q.val 0) = none := by decide
  exact this ⟨p, hp⟩
theorem next_sign {p : Nat} (h : p < 10) (W : World) (k : Nat) (hk : W.heap[k]? = some (.stringIter ⟨#[61, 124, 59, 40, 41, 42, 43, 63, 47, 37]⟩ p)) :
    ∀ ty, (Instr.next (.pointer (some ⟨k, 0, none⟩)) true ty).run Tryz.prog W = .ok (.tuple #[.bool true, .int .i64 (p : Int), .int .i32 (signs.getD p 0)]) (W.iterAt k ⟨#[61, 124, 59, 40, 41, 42, 43, 63, 47, 37]⟩ (p + 1)) := by
  intro ty
  have key : ∀ n : Fin 10, (((⟨#[61, 124, 59, 40, 41, 42, 43, 63, 47, 37]⟩ : ByteArray)[n.val]'(by have := n.isLt; exact this)).toNat < 128) := by decide
  have val : ∀ n : Fin 10, ((((⟨#[61, 124, 59, 40, 41, 42, 43, 63, 47, 37]⟩ : ByteArray)[n.val]'(by have := n.isLt; exact this)).toNat : Int) = signs.getD n.val 0) := by decide
  have hk1 : ((⟨#[61, 124, 59, 40, 41, 42, 43, 63, 47, 37]⟩ : ByteArray)[p]'h).toNat < 128 := key ⟨p, h⟩
  have hk2 : (((⟨#[61, 124, 59, 40, 41, 42, 43, 63, 47, 37]⟩ : ByteArray)[p]'h).toNat : Int) = signs.getD p 0 := val ⟨p, h⟩
  rw [Lib.run_next_ascii_at W k _ p ty hk h hk1, hk2]
theorem sign_byte (p : Nat) (hp : p < 10) : IntKind.u8.wrap (signs.getD p 0) = signs.getD p 0 := by
  have : ∀ q : Fin 10, IntKind.u8.wrap (signs.getD q.val 0) = signs.getD q.val 0 := by decide
  exact this ⟨p, hp⟩
theorem iterAt_below {B : Nat} {w W : World} (h : Below B w W) {k : Nat} (hk : B ≤ k) (s : ByteArray) (p : Nat) : Below B w (W.iterAt k s p) := Lib.below_iterAt h hk s p
theorem iterAt_other (W : World) (k b : Nat) (h : b ≠ k) (s : ByteArray) (p : Nat) : (W.iterAt k s p).heap[b]? = W.heap[b]? := by
  unfold World.iterAt
  simp [Array.getElem?_setIfInBounds, Ne.symm h]
theorem put_below {B : Nat} {w W W' : World} (h : Below B w W) {b : Nat} (hb : B ≤ b) (s : W'.heap.size = W.heap.size) (o : ∀ k, k ≠ b → W'.heap[k]? = W.heap[k]?) (x1 : W'.os = W.os) (x2 : W'.tape = W.tape) (x3 : W'.output = W.output) : Below B w W' :=
  ⟨x1.trans h.os, x2.trans h.tape, x3.trans h.output, by rw [s]; exact h.size, fun k hk => (o k (by omega)).trans (h.block k hk)⟩
set_option maxRecDepth 20000 in
set_option maxHeartbeats 4000000 in
theorem readers_l (w : World) :
    Calls Tryz.prog 40 #[] w fun e w' => ∃ b, e = .returned (.map (some b)) ∧ Mp w' b (fS 10) ∧ Below w.heap.size w w' := by
  have hmm := @run_makeMap Tryz.prog
  obtain ⟨W1, r1, m1, s1, o1, x11, x12, x13⟩ := (Mp.new w).put 64 75 rfl
  obtain ⟨W2, r2, m2, s2, o2, x21, x22, x23⟩ := m1.put 34 76 rfl
  obtain ⟨W3, r3, m3, s3, o3, x31, x32, x33⟩ := m2.put 91 77 rfl
  obtain ⟨W4, r4, m4, s4, o4, x41, x42, x43⟩ := m3.put 60 78 rfl
  have B0 : Below w.heap.size w (w.alloc (.map #[] 0)) := Below.new1 _
  have B1 := put_below B0 (Nat.le_refl _) s1 o1 x11 x12 x13
  have B2 := put_below B1 (Nat.le_refl _) s2 o2 x21 x22 x23
  have B3 := put_below B2 (Nat.le_refl _) s3 o3 x31 x32 x33
  have B4 := hideR (put_below B3 (Nat.le_refl _) s4 o4 x41 x42 x43)
  have M4 : Hid (Mp W4 w.heap.size (fL 0)) := by rw [fL_zero]; exact m4
  clear m1 m2 m3 m4 s1 s2 s3 s4 o1 o2 o3 o4 x11 x12 x13 x21 x22 x23 x31 x32 x33 x41 x42 x43 B0 B1 B2 B3
  go_enter Tryz.func40, Tryz.ntmps40
  go_wp2_with fail
  clear r1 r2 r3 r4 hmm
  go_loopw [2] (fun u wr => ∃ k : Nat, k ≤ 26 ∧ u = .int .u8 (97 + (k : Int)) ∧ Hid (Mp wr w.heap.size (fL k)) ∧ Hid (Below w.heap.size w wr)) (fun u _ => 123 - (intOf u).toNat)
  case atStart => exact ⟨0, by omega, rfl, M4, B4⟩
  case round =>
    obtain ⟨k, hk, rfl, hm, hb⟩ := hrel
    clear M4 B4
    by_cases hlt : k < 26
    · have c1 : 97 + (k : Int) ≤ 122 := by omega
      obtain ⟨W', r, m, s, o, x1, x2, x3⟩ := (unhideR hm).put (97 + (k : Int)) 79 (fL_new k hlt)
      rw [fL_step] at m
      have M := hideR m
      have B := hideR (put_below (unhideR hb) (Nat.le_refl _) s o x1 x2 x3)
      clear m s o x1 x2 x3 hm hb
      go_wp2_with fail
      go_roundw
      case rel => exact ⟨k + 1, by omega, by go_num, M, B⟩
      case measure => simp [intOf]; omega
    · obtain rfl : k = 26 := by omega
      have c1 : ¬ 97 + ((26 : Nat) : Int) ≤ 122 := by omega
      have hlt2 := (unhideR hm).lt
      have hws := (unhideR hb).size
      have M0 : Hid (Mp (wr.iter ⟨#[61, 124, 59, 40, 41, 42, 43, 63, 47, 37]⟩ 0) w.heap.size (fS 0)) := by
        rw [fS_zero]
        exact Mp.later (unhideR hm) (iter_below _ _ _)
      have B0 : Hid (Below w.heap.size w (wr.iter ⟨#[61, 124, 59, 40, 41, 42, 43, 63, 47, 37]⟩ 0)) := (unhideR hb).trans ((iter_below _ _ _).mono hws)
      have I0 : Hid ((wr.iter ⟨#[61, 124, 59, 40, 41, 42, 43, 63, 47, 37]⟩ 0).heap[wr.heap.size]? = some (.stringIter ⟨#[61, 124, 59, 40, 41, 42, 43, 63, 47, 37]⟩ 0)) := World.iter_heap _ _ _
      clear hm hb
      go_wp2_with fail
      generalize hit : wr.heap.size = it at *
      generalize hwi : wr.iter ⟨#[61, 124, 59, 40, 41, 42, 43, 63, 47, 37]⟩ 0 = Wi at *
      clear hwi
      go_loopw [] (fun wx => ∃ p : Nat, p ≤ 10 ∧ Hid (wx.heap[it]? = some (.stringIter ⟨#[61, 124, 59, 40, 41, 42, 43, 63, 47, 37]⟩ p)) ∧ Hid (Mp wx w.heap.size (fS p)) ∧ Hid (Below w.heap.size w wx)) (fun wx => 10 - wx.iterPos it)
      case atStart => exact ⟨0, by omega, I0, M0, B0⟩
      case round =>
        obtain ⟨p, hp, hi, hm, hb⟩ := hrel
        clear I0 M0 B0
        by_cases hlt3 : p < 10
        · have hne : w.heap.size ≠ it := by omega
          have hn := next_sign hlt3 wr it (unhideR hi)
          have I1 := Lib.iterAt_heap wr it ⟨#[61, 124, 59, 40, 41, 42, 43, 63, 47, 37]⟩ p (p + 1) (unhideR hi)
          have m1 := Mp.keep (unhideR hm) (iterAt_other wr it w.heap.size hne ⟨#[61, 124, 59, 40, 41, 42, 43, 63, 47, 37]⟩ (p + 1))
          have b1 := iterAt_below (unhideR hb) (k := it) (by omega) ⟨#[61, 124, 59, 40, 41, 42, 43, 63, 47, 37]⟩ (p + 1)
          have q0 := iterPos_of (unhideR hi)
          obtain ⟨W', r, m, s, o, x1, x2, x3⟩ := m1.put (signs.getD p 0) 80 (fS_new p hlt3)
          rw [fS_step p hlt3] at m
          have M := hideR m
          have I2 : W'.heap[it]? = some (.stringIter ⟨#[61, 124, 59, 40, 41, 42, 43, 63, 47, 37]⟩ (p + 1)) := (o it (Ne.symm hne)).trans I1
          have q1 := iterPos_of I2
          have I := hideR I2
          have B := hideR (put_below b1 (Nat.le_refl _) s o x1 x2 x3)
          have t1 := sign_byte p hlt3
          clear m s o x1 x2 x3 hm hb m1 b1 hi I1 I2
          generalize wr.iterAt it ⟨#[61, 124, 59, 40, 41, 42, 43, 63, 47, 37]⟩ (p + 1) = V at *
          generalize signs.getD p 0 = z at *
          go_wp2_with fail
          go_roundw
          case rel => exact ⟨p + 1, by omega, I, M, B⟩
          case measure => rw [q0, q1]; omega
        · obtain rfl : p = 10 := by omega
          have hn := fun ty => Lib.run_next_end_at (P := Tryz.prog) wr it ⟨#[61, 124, 59, 40, 41, 42, 43, 63, 47, 37]⟩ 10 ty (unhideR hi) (by decide)
          clear hi
          go_wp2_with fail
          go_ret
          exact ⟨_, rfl, unhideR hm, unhideR hb⟩

/-! ### The token that a tail begins by -/
theorem fS_let {c : Int} (h : isLet c = true) : fS 10 c = some 79 := by
  have hc : 97 ≤ c ∧ c ≤ 122 := by simpa [isLet] using h
  have hs : c ∉ signs.take 10 := by
    intro x
    have : ∀ z ∈ signs.take 10, z < 97 ∨ 122 < z := by decide
    have := this c x
    omega
  unfold fS fL
  rw [if_neg hs, if_pos (by omega)]
theorem fS_sign {c : Int} (h : c ∈ signs) : fS 10 c = some 80 := by
  unfold fS
  rw [if_pos (by exact h)]
theorem fS_64 : fS 10 64 = some 75 := by decide
theorem fS_34 : fS 10 34 = some 76 := by decide
theorem fS_91 : fS 10 91 = some 77 := by decide
theorem fS_60 : fS 10 60 = some 78 := by decide
theorem fS_none {c : Int} (h1 : isLet c = false) (h2 : c ∉ signs) (h3 : c ≠ 64) (h4 : c ≠ 34) (h5 : c ≠ 91) (h6 : c ≠ 60) : fS 10 c = none := by
  have hc : ¬ (97 ≤ c ∧ c ≤ 122) := by
    intro x
    have : isLet c = true := by simpa [isLet] using x
    rw [h1] at this
    cases this
  unfold fS fL f4 upd
  rw [if_neg (by exact h2), if_neg (by omega), if_neg h6, if_neg h5, if_neg h4, if_neg h3]
theorem tok_none {l : List Int} (h1 : isLet (l.getD 0 0) = false) (h2 : l.getD 0 0 ∉ signs) (h3 : l.getD 0 0 ≠ 64) (h4 : l.getD 0 0 ≠ 34) (h5 : l.getD 0 0 ≠ 91) (h6 : l.getD 0 0 ≠ 60) : tokL l = none := by
  unfold tokL
  rw [h1, if_neg (by simp), if_neg h3, if_neg h2, if_neg h4, if_neg h6, if_neg h5]
def Reads (g : Nat) (a : Option Addr) (len cap : Nat) (l : List Int) : Prop := ∀ W, Bs W a len cap l → Calls Tryz.prog g #[.slice a len cap] W fun e w' => ∃ v n, e = .returned (.tuple #[v, .int .i64 (n : Nat)]) ∧ TokO w' v n (tokL l) ∧ Below W.heap.size W w'
theorem TokO.form {w : World} {v : Value} {n : Nat} {o : Option (Tk × Nat)} (h : TokO w v n o) : ∃ k s p m c q, v = .agg #[.int .i64 k, .string s, .slice p m c, .int .i64 q] := by
  rcases h with ⟨_, rfl, _⟩ | ⟨t, _, a, c, rfl, _⟩
  · exact ⟨_, _, _, _, _, _, rfl⟩
  · exact ⟨_, _, _, _, _, _, rfl⟩
theorem TokO.set4 {w : World} {v : Value} {n : Nat} {o : Option (Tk × Nat)} (h : TokO w v n o) {g : Nat} {cs : Array Value} (hg : w.heap[g]? = some (.cells cs 102)) (x0 x1 x2 x3 : Value) :
    TokO ((((w.setCell ⟨g, 0, none⟩ x0).setCell ⟨g, 1, none⟩ x1).setCell ⟨g, 2, none⟩ x2).setCell ⟨g, 3, none⟩ x3) v n o := by
  rcases h with h | ⟨t, e, a, c, rfl, hr⟩
  · exact .inl h
  · exact .inr ⟨t, e, a, c, rfl, Rs.set4 hr hg _ _ _ _⟩
set_option maxRecDepth 20000 in
set_option maxHeartbeats 4000000 in
theorem token_name (a : Option Addr) (len cap : Nat) (l : List Int) (w : World) (h : Bs w a len cap l) (hp : 1 ≤ len) (b : Nat) (hm : Mp w b (fS 10)) (hf : fS 10 (l.getD 0 0) = some 79) (hr : Reads 79 a len cap l) :
    Calls Tryz.prog 42 #[.slice a len cap, .map (some b)] w fun e w' => ∃ v n, e = .returned (.tuple #[v, .int .i64 (n : Nat)]) ∧ TokO w' v n (tokL l) ∧ Below w.heap.size w w' := by
  have HB := hideR (Bs.later h (Below.new1 zTok) (Nat.le_refl _))
  have lk := (Mp.later hm (Below.new1 zTok)).get (l.getD 0 0)
  rw [hf] at lk
  simp only [Option.isSome_some] at lk
  obtain ⟨bb, off, rfl, hb⟩ := h.open (by omega)
  obtain ⟨z, hz, z0, z1, cz⟩ := bat hb 0 (by omega)
  rw [Nat.add_zero] at cz
  rw [hz] at lk
  have cz1 : (w.alloc zTok).cell? ⟨bb, off, none⟩ = some (.int .u8 z) := by rw [(Below.new1 (w := w) zTok).cell (block_lt' cz)]; exact cz
  have CR := hideR hr
  unfold zTok at *
  clear h hb hm hf hr hz cz
  go_enter Tryz.func42, Tryz.ntmps42
  go_wp2_with fail
  refine (unhideR CR _ (unhideR HB)).mono ?_
  rintro e w1 ⟨v, n, rfl, to, b1⟩
  obtain ⟨k, s, p, m, c, q, rfl⟩ := to.form
  have HT := hideR to
  clear CR HB to
  have HG := kept_new b1
  obtain ⟨⟨q0, q1, q2, q3⟩, f0, f1, f2, f3⟩ := cells4 HG
  go_wp2_with fail
  (try simp only [Exit.inBlock, Exit.then])
  refine bodyPost_ret (v := .tuple #[.agg #[.int .i64 k, .string s, .slice p m c, .int .i64 q], .int .i64 (n : Nat)]) ?_ rfl ⟨_, _, rfl, TokO.set4 (unhideR HT) HG _ _ _ _, ?_⟩
  · rw [results_cell_tmp rfl]
    go_simp
  · exact set4 ((Below.new1 _).trans (b1.mono (by simp))) (Nat.le_refl _) _ _ _ _
set_option maxRecDepth 20000 in
set_option maxHeartbeats 4000000 in
theorem token_sign (a : Option Addr) (len cap : Nat) (l : List Int) (w : World) (h : Bs w a len cap l) (hp : 1 ≤ len) (b : Nat) (hm : Mp w b (fS 10)) (hf : fS 10 (l.getD 0 0) = some 80) (hr : Reads 80 a len cap l) :
    Calls Tryz.prog 42 #[.slice a len cap, .map (some b)] w fun e w' => ∃ v n, e = .returned (.tuple #[v, .int .i64 (n : Nat)]) ∧ TokO w' v n (tokL l) ∧ Below w.heap.size w w' := by
  have HB := hideR (Bs.later h (Below.new1 zTok) (Nat.le_refl _))
  have lk := (Mp.later hm (Below.new1 zTok)).get (l.getD 0 0)
  rw [hf] at lk
  simp only [Option.isSome_some] at lk
  obtain ⟨bb, off, rfl, hb⟩ := h.open (by omega)
  obtain ⟨z, hz, z0, z1, cz⟩ := bat hb 0 (by omega)
  rw [Nat.add_zero] at cz
  rw [hz] at lk
  have cz1 : (w.alloc zTok).cell? ⟨bb, off, none⟩ = some (.int .u8 z) := by rw [(Below.new1 (w := w) zTok).cell (block_lt' cz)]; exact cz
  have CR := hideR hr
  unfold zTok at *
  clear h hb hm hf hr hz cz
  go_enter Tryz.func42, Tryz.ntmps42
  go_wp2_with fail
  refine (unhideR CR _ (unhideR HB)).mono ?_
  rintro e w1 ⟨v, n, rfl, to, b1⟩
  obtain ⟨k, s, p, m, c, q, rfl⟩ := to.form
  have HT := hideR to
  clear CR HB to
  have HG := kept_new b1
  obtain ⟨⟨q0, q1, q2, q3⟩, f0, f1, f2, f3⟩ := cells4 HG
  go_wp2_with fail
  (try simp only [Exit.inBlock, Exit.then])
  refine bodyPost_ret (v := .tuple #[.agg #[.int .i64 k, .string s, .slice p m c, .int .i64 q], .int .i64 (n : Nat)]) ?_ rfl ⟨_, _, rfl, TokO.set4 (unhideR HT) HG _ _ _ _, ?_⟩
  · rw [results_cell_tmp rfl]
    go_simp
  · exact set4 ((Below.new1 _).trans (b1.mono (by simp))) (Nat.le_refl _) _ _ _ _
set_option maxRecDepth 20000 in
set_option maxHeartbeats 4000000 in
theorem token_mark (a : Option Addr) (len cap : Nat) (l : List Int) (w : World) (h : Bs w a len cap l) (hp : 1 ≤ len) (b : Nat) (hm : Mp w b (fS 10)) (hf : fS 10 (l.getD 0 0) = some 75) (hr : Reads 75 a len cap l) :
    Calls Tryz.prog 42 #[.slice a len cap, .map (some b)] w fun e w' => ∃ v n, e = .returned (.tuple #[v, .int .i64 (n : Nat)]) ∧ TokO w' v n (tokL l) ∧ Below w.heap.size w w' := by
  have HB := hideR (Bs.later h (Below.new1 zTok) (Nat.le_refl _))
  have lk := (Mp.later hm (Below.new1 zTok)).get (l.getD 0 0)
  rw [hf] at lk
  simp only [Option.isSome_some] at lk
  obtain ⟨bb, off, rfl, hb⟩ := h.open (by omega)
  obtain ⟨z, hz, z0, z1, cz⟩ := bat hb 0 (by omega)
  rw [Nat.add_zero] at cz
  rw [hz] at lk
  have cz1 : (w.alloc zTok).cell? ⟨bb, off, none⟩ = some (.int .u8 z) := by rw [(Below.new1 (w := w) zTok).cell (block_lt' cz)]; exact cz
  have CR := hideR hr
  unfold zTok at *
  clear h hb hm hf hr hz cz
  go_enter Tryz.func42, Tryz.ntmps42
  go_wp2_with fail
  refine (unhideR CR _ (unhideR HB)).mono ?_
  rintro e w1 ⟨v, n, rfl, to, b1⟩
  obtain ⟨k, s, p, m, c, q, rfl⟩ := to.form
  have HT := hideR to
  clear CR HB to
  have HG := kept_new b1
  obtain ⟨⟨q0, q1, q2, q3⟩, f0, f1, f2, f3⟩ := cells4 HG
  go_wp2_with fail
  (try simp only [Exit.inBlock, Exit.then])
  refine bodyPost_ret (v := .tuple #[.agg #[.int .i64 k, .string s, .slice p m c, .int .i64 q], .int .i64 (n : Nat)]) ?_ rfl ⟨_, _, rfl, TokO.set4 (unhideR HT) HG _ _ _ _, ?_⟩
  · rw [results_cell_tmp rfl]
    go_simp
  · exact set4 ((Below.new1 _).trans (b1.mono (by simp))) (Nat.le_refl _) _ _ _ _
set_option maxRecDepth 20000 in
set_option maxHeartbeats 4000000 in
theorem token_lit (a : Option Addr) (len cap : Nat) (l : List Int) (w : World) (h : Bs w a len cap l) (hp : 1 ≤ len) (b : Nat) (hm : Mp w b (fS 10)) (hf : fS 10 (l.getD 0 0) = some 76) (hr : Reads 76 a len cap l) :
    Calls Tryz.prog 42 #[.slice a len cap, .map (some b)] w fun e w' => ∃ v n, e = .returned (.tuple #[v, .int .i64 (n : Nat)]) ∧ TokO w' v n (tokL l) ∧ Below w.heap.size w w' := by
  have HB := hideR (Bs.later h (Below.new1 zTok) (Nat.le_refl _))
  have lk := (Mp.later hm (Below.new1 zTok)).get (l.getD 0 0)
  rw [hf] at lk
  simp only [Option.isSome_some] at lk
  obtain ⟨bb, off, rfl, hb⟩ := h.open (by omega)
  obtain ⟨z, hz, z0, z1, cz⟩ := bat hb 0 (by omega)
  rw [Nat.add_zero] at cz
  rw [hz] at lk
  have cz1 : (w.alloc zTok).cell? ⟨bb, off, none⟩ = some (.int .u8 z) := by rw [(Below.new1 (w := w) zTok).cell (block_lt' cz)]; exact cz
  have CR := hideR hr
  unfold zTok at *
  clear h hb hm hf hr hz cz
  go_enter Tryz.func42, Tryz.ntmps42
  go_wp2_with fail
  refine (unhideR CR _ (unhideR HB)).mono ?_
  rintro e w1 ⟨v, n, rfl, to, b1⟩
  obtain ⟨k, s, p, m, c, q, rfl⟩ := to.form
  have HT := hideR to
  clear CR HB to
  have HG := kept_new b1
  obtain ⟨⟨q0, q1, q2, q3⟩, f0, f1, f2, f3⟩ := cells4 HG
  go_wp2_with fail
  (try simp only [Exit.inBlock, Exit.then])
  refine bodyPost_ret (v := .tuple #[.agg #[.int .i64 k, .string s, .slice p m c, .int .i64 q], .int .i64 (n : Nat)]) ?_ rfl ⟨_, _, rfl, TokO.set4 (unhideR HT) HG _ _ _ _, ?_⟩
  · rw [results_cell_tmp rfl]
    go_simp
  · exact set4 ((Below.new1 _).trans (b1.mono (by simp))) (Nat.le_refl _) _ _ _ _
set_option maxRecDepth 20000 in
set_option maxHeartbeats 4000000 in
theorem token_class (a : Option Addr) (len cap : Nat) (l : List Int) (w : World) (h : Bs w a len cap l) (hp : 1 ≤ len) (b : Nat) (hm : Mp w b (fS 10)) (hf : fS 10 (l.getD 0 0) = some 77) (hr : Reads 77 a len cap l) :
    Calls Tryz.prog 42 #[.slice a len cap, .map (some b)] w fun e w' => ∃ v n, e = .returned (.tuple #[v, .int .i64 (n : Nat)]) ∧ TokO w' v n (tokL l) ∧ Below w.heap.size w w' := by
  have HB := hideR (Bs.later h (Below.new1 zTok) (Nat.le_refl _))
  have lk := (Mp.later hm (Below.new1 zTok)).get (l.getD 0 0)
  rw [hf] at lk
  simp only [Option.isSome_some] at lk
  obtain ⟨bb, off, rfl, hb⟩ := h.open (by omega)
  obtain ⟨z, hz, z0, z1, cz⟩ := bat hb 0 (by omega)
  rw [Nat.add_zero] at cz
  rw [hz] at lk
  have cz1 : (w.alloc zTok).cell? ⟨bb, off, none⟩ = some (.int .u8 z) := by rw [(Below.new1 (w := w) zTok).cell (block_lt' cz)]; exact cz
  have CR := hideR hr
  unfold zTok at *
  clear h hb hm hf hr hz cz
  go_enter Tryz.func42, Tryz.ntmps42
  go_wp2_with fail
  refine (unhideR CR _ (unhideR HB)).mono ?_
  rintro e w1 ⟨v, n, rfl, to, b1⟩
  obtain ⟨k, s, p, m, c, q, rfl⟩ := to.form
  have HT := hideR to
  clear CR HB to
  have HG := kept_new b1
  obtain ⟨⟨q0, q1, q2, q3⟩, f0, f1, f2, f3⟩ := cells4 HG
  go_wp2_with fail
  (try simp only [Exit.inBlock, Exit.then])
  refine bodyPost_ret (v := .tuple #[.agg #[.int .i64 k, .string s, .slice p m c, .int .i64 q], .int .i64 (n : Nat)]) ?_ rfl ⟨_, _, rfl, TokO.set4 (unhideR HT) HG _ _ _ _, ?_⟩
  · rw [results_cell_tmp rfl]
    go_simp
  · exact set4 ((Below.new1 _).trans (b1.mono (by simp))) (Nat.le_refl _) _ _ _ _
set_option maxRecDepth 20000 in
set_option maxHeartbeats 4000000 in
theorem token_octets (a : Option Addr) (len cap : Nat) (l : List Int) (w : World) (h : Bs w a len cap l) (hp : 1 ≤ len) (b : Nat) (hm : Mp w b (fS 10)) (hf : fS 10 (l.getD 0 0) = some 78) (hr : Reads 78 a len cap l) :
    Calls Tryz.prog 42 #[.slice a len cap, .map (some b)] w fun e w' => ∃ v n, e = .returned (.tuple #[v, .int .i64 (n : Nat)]) ∧ TokO w' v n (tokL l) ∧ Below w.heap.size w w' := by
  have HB := hideR (Bs.later h (Below.new1 zTok) (Nat.le_refl _))
  have lk := (Mp.later hm (Below.new1 zTok)).get (l.getD 0 0)
  rw [hf] at lk
  simp only [Option.isSome_some] at lk
  obtain ⟨bb, off, rfl, hb⟩ := h.open (by omega)
  obtain ⟨z, hz, z0, z1, cz⟩ := bat hb 0 (by omega)
  rw [Nat.add_zero] at cz
  rw [hz] at lk
  have cz1 : (w.alloc zTok).cell? ⟨bb, off, none⟩ = some (.int .u8 z) := by rw [(Below.new1 (w := w) zTok).cell (block_lt' cz)]; exact cz
  have CR := hideR hr
  unfold zTok at *
  clear h hb hm hf hr hz cz
  go_enter Tryz.func42, Tryz.ntmps42
  go_wp2_with fail
  refine (unhideR CR _ (unhideR HB)).mono ?_
  rintro e w1 ⟨v, n, rfl, to, b1⟩
  obtain ⟨k, s, p, m, c, q, rfl⟩ := to.form
  have HT := hideR to
  clear CR HB to
  have HG := kept_new b1
  obtain ⟨⟨q0, q1, q2, q3⟩, f0, f1, f2, f3⟩ := cells4 HG
  go_wp2_with fail
  (try simp only [Exit.inBlock, Exit.then])
  refine bodyPost_ret (v := .tuple #[.agg #[.int .i64 k, .string s, .slice p m c, .int .i64 q], .int .i64 (n : Nat)]) ?_ rfl ⟨_, _, rfl, TokO.set4 (unhideR HT) HG _ _ _ _, ?_⟩
  · rw [results_cell_tmp rfl]
    go_simp
  · exact set4 ((Below.new1 _).trans (b1.mono (by simp))) (Nat.le_refl _) _ _ _ _
set_option maxRecDepth 20000 in
set_option maxHeartbeats 4000000 in
theorem token_none (a : Option Addr) (len cap : Nat) (l : List Int) (w : World) (h : Bs w a len cap l) (hp : 1 ≤ len) (b : Nat) (hm : Mp w b (fS 10)) (hf : fS 10 (l.getD 0 0) = none) (ht : tokL l = none) :
    Calls Tryz.prog 42 #[.slice a len cap, .map (some b)] w fun e w' => ∃ v n, e = .returned (.tuple #[v, .int .i64 (n : Nat)]) ∧ TokO w' v n (tokL l) ∧ Below w.heap.size w w' := by
  rw [ht]
  have lk := (Mp.later hm (Below.new1 zTok)).get (l.getD 0 0)
  rw [hf] at lk
  simp only [Option.isSome_none] at lk
  obtain ⟨bb, off, rfl, hb⟩ := h.open (by omega)
  obtain ⟨z, hz, z0, z1, cz⟩ := bat hb 0 (by omega)
  rw [Nat.add_zero] at cz
  rw [hz] at lk
  have cz1 : (w.alloc zTok).cell? ⟨bb, off, none⟩ = some (.int .u8 z) := by rw [(Below.new1 (w := w) zTok).cell (block_lt' cz)]; exact cz
  unfold zTok at *
  clear h hb hm hf hz cz ht
  go_enter Tryz.func42, Tryz.ntmps42
  go_wp2_with fail
  (try simp only [Exit.inBlock, Exit.then])
  refine bodyPost_ret (v := .tuple #[zeroTok, .int .i64 (0 : Nat)]) ?_ rfl ⟨_, _, rfl, .inl ⟨rfl, rfl, rfl⟩, ?_⟩
  · rw [results_cell_tmp rfl]
    go_simp
    try rfl
  · exact Below.new1 _
theorem token_l (a : Option Addr) (len cap : Nat) (l : List Int) (w : World) (h : Bs w a len cap l) (hl : len ≤ 100000) (hp : 1 ≤ len) (b : Nat) (hm : Mp w b (fS 10)) :
    Calls Tryz.prog 42 #[.slice a len cap, .map (some b)] w fun e w' => ∃ v n, e = .returned (.tuple #[v, .int .i64 (n : Nat)]) ∧ TokO w' v n (tokL l) ∧ Below w.heap.size w w' := by
  cases h1 : isLet (l.getD 0 0) with
  | true => exact token_name a len cap l w h hp b hm (fS_let h1) (fun W hB => name_l a len cap l W hB (by omega) h1)
  | false =>
    by_cases h2 : l.getD 0 0 ∈ signs
    · exact token_sign a len cap l w h hp b hm (fS_sign h2) (fun W hB => sign_l a len cap l W hB hp h2)
    · by_cases h3 : l.getD 0 0 = 64
      · exact token_mark a len cap l w h hp b hm (by rw [h3]; exact fS_64) (fun W hB => mark_l a len cap l W hB (by omega) hp h3)
      · by_cases h4 : l.getD 0 0 = 34
        · exact token_lit a len cap l w h hp b hm (by rw [h4]; exact fS_34) (fun W hB => lit_l a len cap l W hB hl hp h4)
        · by_cases h5 : l.getD 0 0 = 91
          · exact token_class a len cap l w h hp b hm (by rw [h5]; exact fS_91) (fun W hB => class_l a len cap l W hB hl hp h5)
          · by_cases h6 : l.getD 0 0 = 60
            · exact token_octets a len cap l w h hp b hm (by rw [h6]; exact fS_60) (fun W hB => octets_l a len cap l W hB hl hp h6)
            · exact token_none a len cap l w h hp b hm (fS_none h1 h2 h3 h4 h5 h6) (tok_none h1 h2 h3 h4 h5 h6)
end Go.Proofs.YtfcfcgeodghmpaaGreatDoor.T

namespace Go.Proofs.YtfcfcgeodghmpaaGreatDoor.T
open Go.RowKit
set_option linter.unusedVariables false
set_option linter.unusedSimpArgs false

def skipN : List Int → Nat
  | [] => 0
  | z :: t => if isBl z then skipN t + 1 else 0
theorem skip_len : ∀ r : List Int, skipN r ≤ r.length := by
  intro r
  induction r with
  | nil => simp [skipN]
  | cons z t ih => simp only [skipN]; split <;> simp <;> omega
theorem bl_byte : ∀ n : Fin 256, ([32, 9, 10, 13] : List UInt8).contains (UInt8.ofNat n.val) = isBl (n.val : Int) := by decide +kernel
theorem bl_byte' {z : Int} (h0 : 0 ≤ z) (h1 : z ≤ 255) : ([32, 9, 10, 13] : List UInt8).contains (UInt8.ofNat z.toNat) = isBl z := by
  have := bl_byte ⟨z.toNat, by omega⟩
  simp only [Int.toNat_of_nonneg h0] at this
  exact this
theorem trim_len : ∀ r : List Int, U.isBytes r → (Lib.trimLeftS (Lib.bytesOf r) [32, 9, 10, 13]).length = r.length - skipN r := by
  intro r
  induction r with
  | nil => intro _; rfl
  | cons z t ih =>
    intro hb
    have hz := U.isBytes_head hb
    have := ih (U.isBytes_tail hb)
    unfold Lib.trimLeftS Lib.bytesOf at *
    rw [List.map_cons, List.dropWhile_cons, bl_byte' hz.1 hz.2]
    simp only [skipN, List.length_cons]
    cases h : isBl z with
    | true =>
      simp only [if_true]
      rw [this]
      omega
    | false =>
      simp
theorem tail_run8 (a : Option Addr) (len cap k : Nat) (i : Int) (hi : i = (k : Int)) (hk : k ≤ len) : ∀ W, (Instr.slice 54 (.slice a len cap) (some (.int .i64 i)) none none).run Tryz.prog W = .ok (.slice (dropA a cap k) (len - k) (cap - k)) W := by
  intro W
  subst hi
  have hu : Tryz.prog.underlying 54 = some (.slice 5) := Tryz.underlying54
  unfold Instr.slice dropA
  simp [hu, run_underlying, Instr.sliceBounds, Instr.sliceBound, asIntOf, hk, Tryz.sizeOf5]
theorem trim_l (a : Option Addr) (len cap : Nat) (l : List Int) (w : World) (h : Bs w a len cap l) :
    Calls Tryz.prog 81 #[.slice a len cap, .string ⟨#[32, 9, 10, 13]⟩] w fun e w' => (∃ x c, e = .returned (.slice x (len - skipN l) c)) ∧ Below w.heap.size w w' := by
  have hm := h.hmax
  unfold maxLen at hm
  have := Any.bytes_TrimLeft_laid trimL_lays (by kernel_rfl) a len cap l ⟨#[32, 9, 10, 13]⟩ w h.hlen h.hcap (by omega) (Bs.bytesIn h) (fun x hx => by have := h.hbytes x hx; omega) (by decide) (fun j b hb => by have := List.mem_of_getElem? hb; simp at this; rcases this with rfl | rfl | rfl | rfl <;> decide)
  have hl := trim_len l h.hbytes
  have hs := skip_len l
  rw [h.hlen] at hl hs
  refine Calls.mono this fun e w' hh => ⟨?_, hh.2⟩
  rw [hh.1]
  show ∃ x c, Ending.returned (Lib.leftV a len cap (len - (Lib.trimLeftS (Lib.bytesOf l) [32, 9, 10, 13]).length)) = _
  rw [hl, show len - (len - skipN l) = skipN l by omega]
  unfold Lib.leftV Lib.fromV
  split
  · next c => exact ⟨none, 0, by rw [c]; simp⟩
  · exact ⟨_, _, rfl⟩
set_option maxRecDepth 20000 in
set_option maxHeartbeats 2000000 in
theorem blanks_l (a : Option Addr) (len cap : Nat) (l : List Int) (w : World) (h : Bs w a len cap l) (hl : len ≤ 1000000) (k : Nat) (hk : k ≤ len) :
    Calls Tryz.prog 41 #[.slice a len cap, .int .i64 k] w fun e w' => e = .returned (.int .i64 ((k + skipN (l.drop k) : Nat) : Int)) ∧ Below w.heap.size w w' := by
  have hlen := h.hlen
  have sl := tail_run8 a len cap k k rfl hk
  have C := hideR (trim_l _ _ _ _ w (Bs.dropA h k hk))
  have hs := skip_len (l.drop k)
  rw [List.length_drop] at hs
  clear h
  generalize skipN (l.drop k) = m at *
  have t1 := wrapI ((len : Int) - ((len - k - m : Nat) : Int)) (by omega)
  go_enter Tryz.func41, Tryz.ntmps41
  go_wp2_with fail
  refine (unhideR C).mono ?_
  rintro e w1 ⟨⟨x, c, rfl⟩, b1⟩
  clear C
  go_wp2_with fail
  go_ret
  exact ⟨by show Ending.returned (Value.int .i64 _) = _; congr 2; omega, b1⟩
end Go.Proofs.YtfcfcgeodghmpaaGreatDoor.T

/- Contracts of package token: All. -/
namespace Go.Proofs.YtfcfcgeodghmpaaGreatDoor.T
open Go.RowKit
set_option linter.unusedVariables false
set_option linter.unusedSimpArgs false

theorem all_skip : ∀ (r : List Int) (a c : Nat), U.isBytes r → allA a c r = allA (a + skipN r) c (r.drop (skipN r)) := by
  intro r
  induction r with
  | nil => intro a c _; rfl
  | cons z t ih =>
    intro a c hb
    simp only [skipN]
    cases h : isBl z with
    | false => simp
    | true =>
      simp only [if_true]
      rw [all_blank hb (by simp) (by simpa using h), List.drop_succ_cons, List.drop_zero, List.drop_succ_cons, ih (a + 1) c (U.isBytes_tail hb), show a + 1 + skipN t = a + (skipN t + 1) by omega]
theorem skip_stop : ∀ r : List Int, r.drop (skipN r) ≠ [] → isBl ((r.drop (skipN r)).getD 0 0) = false := by
  intro r
  induction r with
  | nil => intro h; exact absurd rfl h
  | cons z t ih =>
    intro h
    simp only [skipN] at *
    cases e : isBl z with
    | false => simp [e]
    | true =>
      rw [e] at h
      simp only [if_true, List.drop_succ_cons] at h ⊢
      exact ih h

/-! ### Tokens, one behind the other -/
def TkC (w : World) : List (Tk × Nat) → List Value → Prop
  | [], cs => cs = []
  | (t, p) :: ts, cs => ∃ c0 c1 c2 c3 cs', cs = c0 :: c1 :: c2 :: c3 :: cs' ∧ TokV w (.agg #[c0, c1, c2, c3]) t p ∧ TkC w ts cs'
theorem TkC.mono {w w' : World} (h : ∀ v t p, TokV w v t p → TokV w' v t p) : ∀ (ts : List (Tk × Nat)) (cs : List Value), TkC w ts cs → TkC w' ts cs := by
  intro ts
  induction ts with
  | nil => intro cs hc; exact hc
  | cons x ts ih =>
    obtain ⟨t, p⟩ := x
    intro cs hc
    obtain ⟨c0, c1, c2, c3, cs', e, hv, hr⟩ := hc
    exact ⟨c0, c1, c2, c3, cs', e, h _ _ _ hv, ih _ hr⟩
theorem TkC.later {w w' : World} {ts : List (Tk × Nat)} {cs : List Value} (h : TkC w ts cs) (b : Below w.heap.size w w') : TkC w' ts cs := TkC.mono (fun _ _ _ hv => TokV.later hv b) ts cs h
theorem TkC.snoc {w : World} {t : Tk} {p : Nat} {c0 c1 c2 c3 : Value} (hv : TokV w (.agg #[c0, c1, c2, c3]) t p) : ∀ (ts : List (Tk × Nat)) (cs : List Value), TkC w ts cs → TkC w (ts ++ [(t, p)]) (cs ++ [c0, c1, c2, c3]) := by
  intro ts
  induction ts with
  | nil =>
    intro cs hc
    have : cs = [] := hc
    subst this
    exact ⟨c0, c1, c2, c3, [], rfl, hv, rfl⟩
  | cons x ts ih =>
    obtain ⟨t', p'⟩ := x
    intro cs hc
    obtain ⟨d0, d1, d2, d3, cs', e, hv', hr⟩ := hc
    exact ⟨d0, d1, d2, d3, cs' ++ [c0, c1, c2, c3], by rw [e]; rfl, hv', ih _ hr⟩
theorem own_ne {W : World} {base : Nat} {e : TypeId} {size : Nat} {v : Value} {n : Nat} {xs : List Value} (h : W.ownsRow base e size v n xs) {k : Nat} {cs : Array Value} {t : TypeId} {fr : Nat × Nat} (hk : W.heap[k]? = some (.cells cs t fr)) (ht : t ≠ e) : some k ≠ v.ownBlock := by
  rcases h.2 with ⟨rfl, _⟩ | ⟨g, cap, cur, rfl, _, hg, _⟩
  · simp [Value.ownBlock]
  · intro e'
    simp only [Value.ownBlock, Option.some.injEq] at e'
    subst e'
    rw [hk] at hg
    injection hg with hg
    injection hg with _ hg
    exact ht hg
theorem TokV.grown {W W' : World} {base : Nat} {v : Value} {n : Nat} {xs : List Value} (ho : W.ownsRow base 102 4 v n xs) (hg : W.grownBy W' v.ownBlock) (u : Value) (t : Tk) (p : Int) (h : TokV W u t p) : TokV W' u t p := by
  obtain ⟨a, c, e, hr, ht⟩ := h
  have key : ∀ b off, a = some ⟨b, off, none⟩ → W'.heap[b]? = W.heap[b]? := by
    intro b off e
    obtain ⟨cs, fr, hk⟩ := ht b off e
    exact hg.block b (Array.getElem?_eq_some_iff.1 hk).1 (own_ne ho hk (by decide))
  refine ⟨a, c, e, ⟨hr.hlen, hr.hcap, hr.hmax, hr.hfit, fun i hi => ?_⟩, fun b off e => ?_⟩
  · obtain ⟨b, off, ha, hc, hd⟩ := hr.hcell i hi
    exact ⟨b, off, ha, by rw [World.cell?_of_block (key b off ha)]; exact hc, by rw [World.cell?_of_block (key b off ha)]; exact hd⟩
  · obtain ⟨cs, fr, hk⟩ := ht b off e
    exact ⟨cs, fr, (key b off e).trans hk⟩
theorem infoTok3 : (Tryz.prog.info? 102).map (fun i => (i.zero, i.size, i.bytes)) = some (some (.agg #[.int .i64 0, .string ⟨#[]⟩, .slice none 0 0, .int .i64 0]), 4, 56) := by kernel_rfl
theorem new_tok (w : World) (n : Nat) (x0 x1 x2 x3 : Value) (hn : n = w.heap.size) : ∀ (j : Nat) (u : Value), [x0, x1, x2, x3][j]? = some u → (w.alloc (.cells #[x0, x1, x2, x3] 102)).cell? ((⟨n, 0, none⟩ : Addr).add j) = some u := by
  subst hn
  exact World.news_of_block (cs := #[x0, x1, x2, x3]) (t := 102) (fr := (0, 0)) (heap_alloc_new w _)
def Tks (w : World) (base : Nat) (v : Value) (ts : List (Tk × Nat)) : Prop := ∃ cs, w.ownsRow base 102 4 v ts.length cs ∧ TkC w ts cs
def AllR (w : World) (base : Nat) (l : List Int) (e : Ending) : Prop :=
  (∃ a er, allL l = .inl (a, er) ∧ e = .returned (.tuple #[.slice none 0 0, .int .i64 (a : Nat), .int .i64 er])) ∨
  ∃ ts v, allL l = .inr ts ∧ e = .returned (.tuple #[v, .int .i64 (l.length : Nat), .int .i64 0]) ∧ Tks w base v ts
set_option maxRecDepth 20000 in
set_option maxHeartbeats 8000000 in
theorem all_l (s : ByteArray) (l : List Int) (h : St s l) (hl : l.length ≤ 1000000) (w : World) :
    Calls Tryz.prog 24 #[.string s] w fun e w' => AllR w' w.heap.size l e ∧ Below w.heap.size w w' := by
  have hsz := h.size
  have hbb := h.2
  have kc := fun W => run_bytes_of_string (P := Tryz.prog) W 9 54 5 s Tryz.underlying9 Tryz.underlying54 Tryz.underlying5
  by_cases hbig : 3000 < l.length
  · have e : allL l = .inl (0, 7) := by unfold allL; rw [if_pos hbig]
    have t1 : (3000 : Int) < (s.size : Int) := by omega
    have EQ := hideR e
    clear h kc hsz e
    go_enter Tryz.func24, Tryz.ntmps24
    go_wp2_with fail
    (try simp only [Exit.inBlock, Exit.then])
    refine bodyPost_ret (v := .tuple #[.slice none 0 0, .int .i64 (0 : Nat), .int .i64 7]) ?_ rfl ⟨.inl ⟨0, 7, unhideR EQ, rfl⟩, Below.refl _ _⟩
    simp [results, Tryz.results24]
  · have t1 : (s.size : Int) ≤ 3000 := by omega
    have BC := hideR (fun W fr => bs_conv' W h (by unfold maxLen; omega) fr)
    have CBl := hideR (fun W x c (hB : Bs W x s.size c l) k (hk : k ≤ s.size) => blanks_l x s.size c l W hB (by omega) k hk)
    have CT := hideR (fun W x c (hB : Bs W x s.size c l) k (hk : k < s.size) b (hm : Mp W b (fS 10)) => token_l _ _ _ _ W (Bs.dropA hB k (by omega)) (by omega) (by omega) b hm)
    have HL := hideR hsz
    have HBB := hideR hbb
    have AL : Hid (allL l = allA 0 600 l) := allL_is (by omega)
    have ssl : s.size ≤ 3000 := by omega
    have t1b : decide ((3000 : Int) < (s.size : Int)) = false := decide_eq_false (by omega)
    obtain ⟨ti, hi0, hz0, hz1, hz2⟩ := info_parts infoTok3
    clear h hbig hsz hbb hl
    go_enter Tryz.func24, Tryz.ntmps24
    go_wp2_with fail
    have B0 := new_drew' (w := w) (.cells (bytesRow s (grownCap w s.size 0 5)) 5 ((bytesRow s (grownCap w s.size 0 5)).size, (bytesRow s (grownCap w s.size 0 5)).size + 1))
    have HB0 := unhideR BC w ((bytesRow s (grownCap w s.size 0 5)).size, (bytesRow s (grownCap w s.size 0 5)).size + 1)
    clear BC kc
    generalize hW0 : (w.alloc (.cells (bytesRow s (grownCap w s.size 0 5)) 5 ((bytesRow s (grownCap w s.size 0 5)).size, (bytesRow s (grownCap w s.size 0 5)).size + 1))).drew = W0 at *
    clear hW0
    generalize grownCap w s.size 0 5 = gc at *
    refine (readers_l _).mono ?_
    rintro e W1 ⟨mb, rfl, hm, b1⟩
    have HB1 := hideR (Bs.later HB0 b1 (Nat.le_refl _))
    have HM1 := hideR hm
    have HW1 := hideR (bthen B0 b1)
    clear HB0 hm b1 B0
    go_wp2_with fail
    have CB0 : Hid (Calls Tryz.prog 41 #[.slice (some ⟨w.heap.size, 0, none⟩) s.size gc, .int .i64 0] W1 fun e w' => e = .returned (.int .i64 ((skipN l : Nat) : Int)) ∧ Below W1.heap.size W1 w') := by
      have := unhideR CBl W1 _ gc (unhideR HB1) 0 (Nat.zero_le _)
      rw [List.drop_zero, Nat.zero_add] at this
      exact this
    refine (unhideR CB0).mono ?_
    rintro e W2 ⟨rfl, b2⟩
    have HB2 := hideR (Bs.later (unhideR HB1) b2 (Nat.le_refl _))
    have HM2 := hideR (Mp.later (unhideR HM1) b2)
    have HW2 := hideR (bthen (unhideR HW1) b2)
    have hs0 : skipN l ≤ s.size := by rw [unhideR HL]; exact skip_len l
    have A0 : Hid (allL l = joinS [] (allA (skipN l) 600 (l.drop (skipN l)))) := by
      show _ = _
      rw [join_nil, unhideR AL, all_skip l 0 600 (unhideR HBB), Nat.zero_add]
    have S0 : Hid (skipN l < s.size → isBl (l.getD (skipN l) 0) = false) := by
      intro hh
      have := skip_stop l (drop_ne (by rw [← unhideR HL]; exact hh))
      rw [drop_getD, Nat.add_zero] at this
      exact this
    clear CB0 HB1 HM1 HW1 b2 AL
    generalize skipN l = k0 at *
    go_wp2_with fail
    go_loopw [7, 8] (fun v j wr => ∃ (k : Nat) (acc : List (Tk × Nat)) (cs : List Value), k ≤ s.size ∧ acc.length ≤ 600 ∧ j = .int .i64 (k : Int) ∧ Hid (allL l = joinS acc (allA k (600 - acc.length) (l.drop k))) ∧ Hid (k < s.size → isBl (l.getD k 0) = false) ∧ Hid (TkC wr acc cs) ∧ wr.ownsRow W2.heap.size 102 4 v acc.length cs ∧ Below W2.heap.size W2 wr) (fun _ j _ => s.size - (intOf j).toNat)
    case atStart => exact ⟨k0, [], [], hs0, by simp, rfl, A0, S0, rfl, World.ownsRow_nil _ _ _ _, Below.refl _ _⟩
    case round =>
      obtain ⟨k, acc, cs, hk, hacc, rfl, hA, hS, hC, hown, hb⟩ := hrel
      have HBr := hideR (Bs.later (unhideR HB2) hb (Nat.le_refl _))
      have HMr := hideR (Mp.later (unhideR HM2) hb)
      have HO := hideR hown
      have hws := hb.size
      have HBW : Hid (Below w.heap.size w wr) := bthen (unhideR HW2) hb
      clear A0 S0 HM2 hs0
      by_cases hlt : k < s.size
      · have hne : l.drop k ≠ [] := drop_ne (by rw [← unhideR HL]; exact hlt)
        have hbl : isBl ((l.drop k).getD 0 0) = false := by rw [drop_getD, Nat.add_zero]; exact unhideR hS hlt
        have sl := tail_run8 (some ⟨w.heap.size, 0, none⟩) s.size gc k k rfl (by omega)
        have C1 := hideR (unhideR CT wr _ gc (unhideR HBr) k hlt mb (unhideR HMr))
        have hbd := U.isBytes_drop (unhideR HBB) k
        cases et : tokL (l.drop k) with
        | none =>
          have EQ : Hid (allL l = .inl (k, 2)) := by
            show _ = _
            rw [hA.out, all_bad hne hbl et]
            rfl
          rw [et] at C1
          clear et hA hS CT CBl HL HBB hne hbl hbd HMr HBr hC hown HO
          go_wp2_with fail
          refine (unhideR C1).mono ?_
          rintro e w1 ⟨v, n, rfl, to, b1⟩
          have tn : v = zeroTok ∧ n = 0 := by
            rcases to with ⟨_, h2, h3⟩ | ⟨t, h2, _⟩
            · exact ⟨h2, h3⟩
            · cases h2
          obtain ⟨rfl, rfl⟩ := tn
          unfold zeroTok
          clear C1 to
          go_wp2_with fail
          (try simp only [Exit.inBlock, Exit.then])
          refine bodyPost_ret (v := .tuple #[.slice none 0 0, .int .i64 (k : Int), .int .i64 2]) ?_ rfl ⟨.inl ⟨k, 2, unhideR EQ, rfl⟩, ?_⟩
          · simp [results, Tryz.results24]
          · exact bthen (bthen (unhideR HBW) b1) (Below.new1 _)
        | some tp =>
          obtain ⟨t, n⟩ := tp
          have gd := (tok_ok hbd et).2
          rw [List.length_drop, ← unhideR HL] at gd
          rw [et] at C1
          have t0 : ((n : Int) == 0) = false := beq_eq_false_iff_ne.2 (by omega)
          by_cases c6 : acc.length = 600
          · have EQ : Hid (allL l = .inl (k, 7)) := by
              show _ = _
              rw [hA.out, c6, all_many hne hbl et]
              rfl
            obtain ⟨p7, c7, e7⟩ := own_form (unhideR HO)
            have t6 : ((acc.length : Int) == 600) = true := by rw [c6]; rfl
            clear et hA hS CT CBl HL HBB hne hbl hbd HMr HBr hC hown HO c6
            subst e7
            go_wp2_with fail
            refine (unhideR C1).mono ?_
            rintro e w1 ⟨v, m, rfl, to, b1⟩
            obtain ⟨x0, x1, x2, x3, x4, x5, rfl⟩ := to.form
            have tn : m = n := by
              rcases to with ⟨h2, _⟩ | ⟨t', h2, _⟩
              · cases h2
              · injection h2 with h2; injection h2 with _ h2; exact h2.symm
            subst tn
            clear C1 to
            go_wp2_with fail
            (try simp only [Exit.inBlock, Exit.then])
            refine bodyPost_ret (v := .tuple #[.slice none 0 0, .int .i64 (k : Int), .int .i64 7]) ?_ rfl ⟨.inl ⟨k, 7, unhideR EQ, rfl⟩, ?_⟩
            · simp [results, Tryz.results24]
            · exact bthen (bthen (unhideR HBW) b1) (Below.new1 _)
          · have t6 : ((acc.length : Int) == 600) = false := beq_eq_false_iff_ne.2 (by omega)
            have hcap := (unhideR HBr).hcap
            have hs2 := skip_len (l.drop (k + n))
            rw [List.length_drop, ← unhideR HL] at hs2
            have AQ : Hid (allL l = joinS (acc ++ [(t, k)]) (allA (k + n + skipN (l.drop (k + n))) (600 - (acc ++ [(t, k)]).length) (l.drop (k + n + skipN (l.drop (k + n)))))) := by
              show _ = _
              rw [hA.out, show 600 - acc.length = (599 - acc.length) + 1 by omega, all_tok hbd hne hbl et, List.drop_drop, all_skip (l.drop (k + n)) (k + n) _ (U.isBytes_drop (unhideR HBB) (k + n)), List.drop_drop, List.length_append, List.length_singleton, show 600 - (acc.length + 1) = 599 - acc.length by omega]
              cases allA (k + n + skipN (l.drop (k + n))) (599 - acc.length) (l.drop (k + n + skipN (l.drop (k + n)))) with
              | inl e => rfl
              | inr e => simp [joinS, consS]
            have SQ : Hid (k + n + skipN (l.drop (k + n)) < s.size → isBl (l.getD (k + n + skipN (l.drop (k + n))) 0) = false) := by
              intro hh
              have := skip_stop (l.drop (k + n)) (by rw [List.drop_drop]; exact drop_ne (by rw [← unhideR HL]; exact hh))
              rw [List.drop_drop, drop_getD, Nat.add_zero] at this
              exact this
            have t2 := wrapI ((k : Int) + n) (by omega)
            obtain ⟨p7, c7, e7⟩ := own_form (unhideR HO)
            clear et hA hS CT HBB hne hbl hbd HMr hown
            subst e7
            go_wp2_with fail
            refine (unhideR C1).mono ?_
            rintro e w1 ⟨v, m, rfl, to, b1⟩
            have tn : m = n ∧ TokV w1 v t 0 := by
              rcases to with ⟨h2, _⟩ | ⟨t', h2, h3⟩
              · cases h2
              · injection h2 with h2; injection h2 with h2a h2b; subst h2a; exact ⟨h2b.symm, h3⟩
            obtain ⟨rfl, pa, pc, rfl, hr, hty⟩ := tn
            have HV : ∀ W, Below w1.heap.size w1 W → TokV W (.agg #[.int .i64 t.1, .string (strOfNums t.2.1), .slice pa t.2.2.length pc, .int .i64 (k : Int)]) t (k : Int) := fun W bw => ⟨pa, pc, rfl, hr.later bw (Nat.le_refl _), hty.later bw⟩
            have HVH := hideR HV
            have ho1 := ownL b1 (unhideR HO)
            have hC1 := hideR (TkC.later (unhideR hC) b1)
            have hb1 := hb.trans (b1.mono hws)
            have hs1 := hb1.size
            have HB1 := hideR (Bs.later (unhideR HBr) b1 (Nat.le_refl _))
            clear C1 to hr hty HV HO hC HBr
            generalize strOfNums t.2.1 = S at *
            generalize t.1 = K at *
            generalize t.2.2.length = rl at *
            go_wp2_with (at_builtin; refine wpList_append_lies _ rfl _ _ 64 rfl W2.heap.size 102 ti _ 4 56 Tryz.underlying64 hi0 hz0 hz1 hz2 rfl (by omega) _ _ _ rfl ((ho1.alloc _).alloc _) ⟨w1.heap.size + 1, 0, none⟩ 1 1 [.int .i64 K, .string S, .slice pa rl pc, .int .i64 (k : Int)] rfl rfl (new_tok _ _ _ _ _ _ (by simp)) (by simp [Value.oneCell']) (by omega) (by unfold maxLen; omega) (by omega) (by simp; omega) (w1.heap.size + 2) (by simp) ?_; intro gg cap1 w2 hown1 hgrow hat hlt1)
            have hb2 : Below W2.heap.size W2 w2 := hb1.trans (below_app2 ho1 hs1 hgrow)
            have TV := TokV.grown ((ho1.alloc _).alloc _) hgrow
            have b12 : Below w1.heap.size w1 ((w1.alloc (.cells #[.int .i64 K, .string S, .slice pa rl pc, .int .i64 (k : Int)] 102)).alloc (.cells #[.int .i64 K, .string S, .slice pa rl pc, .int .i64 (k : Int)] 102)) := (Below.new1 _).alloc (by simp) _
            have HC2 := hideR (TkC.snoc (TV _ _ _ (unhideR HVH _ b12)) acc cs (TkC.mono TV acc cs (TkC.later (unhideR hC1) b12)))
            have C2 := unhideR CBl w2 _ gc (Bs.later (unhideR HB2) hb2 (Nat.le_refl _)) (k + m) (by omega)
            rw [show ((k + m : Nat) : Int) = (k : Int) + (m : Int) by omega] at C2
            have C2H := hideR C2
            have HO2 := hideR hown1
            clear C2 TV b12 HVH hC1 hown1 hgrow hat hlt1 ho1 CBl HB1 HB2
            generalize skipN (l.drop (k + m)) = sk at *
            refine (unhideR C2H).mono ?_
            rintro e w3 ⟨rfl, b3⟩
            have HO3 := hideR (ownL b3 (unhideR HO2))
            have HC3 := hideR (TkC.later (unhideR HC2) b3)
            have hb3 := hb2.trans (b3.mono hb2.size)
            clear C2H HO2 HC2
            go_wp2_with fail
            go_roundw
            case rel => exact ⟨k + m + sk, acc ++ [(t, k)], _, by omega, by simp; omega, rfl, AQ, SQ, HC3, by rw [List.length_append]; exact unhideR HO3, hb3⟩
            case measure => simp [intOf]; omega
      · obtain rfl : k = s.size := by omega
        have EQ : Hid (allL l = .inr acc) := by
          show _ = _
          rw [hA.out, List.drop_of_length_le (by rw [← unhideR HL]; omega), all_nil]
          simp [joinS]
        have t9 : ¬ ((s.size : Int) < (s.size : Int)) := by omega
        clear hA hS CT CBl HBB HMr HBr hown
        go_wp2_with fail
        (try simp only [Exit.inBlock, Exit.then])
        refine bodyPost_ret (v := .tuple #[u7, .int .i64 (l.length : Nat), .int .i64 0]) ?_ rfl ⟨.inr ⟨acc, u7, unhideR EQ, rfl, cs, own_mono (unhideR HO) (by have := (unhideR HW2).size; omega), unhideR hC⟩, unhideR HBW⟩
        rw [← unhideR HL]
        simp [results, Tryz.results24]
end Go.Proofs.YtfcfcgeodghmpaaGreatDoor.T

namespace Go.Proofs.YtfcfcgeodghmpaaGreatDoor.T
open Go.RowKit
set_option linter.unusedVariables false
set_option linter.unusedSimpArgs false

/-! ### A builder that the call has made, holding these bytes -/
def Bd (w : World) (B b : Nat) (l : List Int) : Prop := Lib.IsBuilderF 79 5 B b (Lib.byteCells (Lib.bytesOf l)) w
theorem Bd.new (w : World) : Bd (w.alloc (.cells #[.pointer none, .slice none 0 0] 79)) w.heap.size w.heap.size [] := Lib.IsBuilderF.of (Lib.fresh_isBuilder _ _ w)
theorem atf_later {T e : TypeId} {B b : Nat} {p : Value} {bs : List Value} {w w' : World} (h : Lib.BuilderAtF T e B b p bs w) (hb : Below w.heap.size w w') : Lib.BuilderAtF T e B b p bs w' := by
  have hlt := h.lt
  obtain ⟨hB, v, h1, hown, hne⟩ := h
  exact ⟨hB, v, (hb.block b hlt).trans h1, hown.kept (show w.grownBy w' none from ⟨hb.os, hb.tape, hb.output, hb.size, fun k hk _ => hb.block k hk⟩) (by cases hv : v.ownBlock <;> simp), hne⟩
theorem Bd.later {w w' : World} {B b : Nat} {l : List Int} (h : Bd w B b l) (hb : Below w.heap.size w w') : Bd w' B b l := h.elim (fun x => .inl (atf_later x hb)) (fun x => .inr (atf_later x hb))
theorem bytes_cells (l : List Int) (h : U.isBytes l) : Lib.byteCells (Lib.bytesOf l) = l.map (Value.int .u8) := by
  unfold Lib.byteCells Lib.bytesOf
  rw [List.map_map]
  refine List.map_congr_left fun z hz => ?_
  have := h z hz
  simp [UInt8.toNat_ofNat']
  omega
theorem str_cells {s : ByteArray} {p : List Int} (h : St s p) : Lib.strCells s = Lib.byteCells (Lib.bytesOf p) := by
  unfold Lib.strCells Lib.byteCells
  rw [h.1, strOfNums_data]
  rfl
theorem bytesOf_app (a b : List Int) : Lib.bytesOf (a ++ b) = Lib.bytesOf a ++ Lib.bytesOf b := by simp [Lib.bytesOf]
theorem wbyte_l (B b : Nat) (l : List Int) (c : Int) (h0 : 0 ≤ c) (h1 : c ≤ 255) (w : World) (h : Bd w B b l) (hl : l.length ≤ 10000000) (hB : B ≤ w.heap.size) :
    Calls Tryz.prog 182 #[.pointer (some ⟨b, 0, none⟩), .int .u8 c] w fun e w' => e = .returned .nilIface ∧ Bd w' B b (l ++ [c]) ∧ Below B w w' ∧ Lib.OthersKept 5 (some b) w w' := by
  have := Any.Builder_WriteByte_k bWByte_lays bWByte_extra B b (Lib.byteCells (Lib.bytesOf l)) c w h (by rw [Lib.byteCells_length]; simp [Lib.bytesOf]; omega) hB
  refine Calls.mono this fun e w' hh => ⟨hh.1, ?_, hh.2.2.1, hh.2.2.2⟩
  refine .inr ?_
  have e1 : Lib.byteCells (Lib.bytesOf (l ++ [c])) = Lib.byteCells (Lib.bytesOf l) ++ [.int .u8 c] := by
    rw [bytesOf_app, Lib.byteCells_append]
    congr 1
    exact bytes_cells [c] (fun z hz => by simp at hz; omega)
  rw [e1]
  exact hh.2.1
theorem wstr_l (B b : Nat) (l : List Int) (s : ByteArray) (p : List Int) (hs : St s p) (w : World) (h : Bd w B b l) (hl : l.length + p.length ≤ 10000000) (hB : B ≤ w.heap.size) :
    Calls Tryz.prog 115 #[.pointer (some ⟨b, 0, none⟩), .string s] w fun e w' => e = .returned (.tuple #[.int .i64 s.size, .nilIface]) ∧ Bd w' B b (l ++ p) ∧ Below B w w' ∧ Lib.OthersKept 5 (some b) w w' := by
  have hsz := hs.size
  have := Any.Builder_WriteString_k bWStr_lays bWStr_extra B b (Lib.byteCells (Lib.bytesOf l)) s w h (by rw [Lib.byteCells_length]; simp [Lib.bytesOf]; omega) hB
  refine Calls.mono this fun e w' hh => ⟨hh.1, ?_, hh.2.2.1, hh.2.2.2⟩
  refine .inr ?_
  have e1 : Lib.byteCells (Lib.bytesOf (l ++ p)) = Lib.byteCells (Lib.bytesOf l) ++ Lib.strCells s := by
    rw [bytesOf_app, Lib.byteCells_append, str_cells hs]
  rw [e1]
  exact hh.2.1
theorem bstr_l (B b : Nat) (l : List Int) (w : World) (h : Bd w B b l) (hB : B ≤ w.heap.size) :
    Calls Tryz.prog 51 #[.pointer (some ⟨b, 0, none⟩)] w fun e w' => e = .returned (.string (strOfNums l)) ∧ Below B w w' := by
  have := Any.Builder_String_any_k bStr_lays bStr_extra B b (Lib.bytesOf l) w h hB
  exact Calls.mono this fun e w' hh => ⟨hh.1, hh.2.2.1⟩
theorem St.app {a b : ByteArray} {x y : List Int} (h : St a x) (k : St b y) : St (a ++ b) (x ++ y) := by
  refine ⟨?_, fun z hz => ?_⟩
  · have ha := h.1
    have hb := k.1
    subst ha hb
    apply ByteArray.ext
    apply Array.ext'
    rw [show (strOfNums x ++ strOfNums y).data = (strOfNums x).data ++ (strOfNums y).data from ByteArray.data_append]
    rw [Array.toList_append, strOfNums_data, strOfNums_data, strOfNums_data, List.map_append]
  · rcases List.mem_append.1 hz with h' | h'
    · exact h.2 z h'
    · exact k.2 z h'

/-! ### A scalar that stands for itself -/
end Go.Proofs.YtfcfcgeodghmpaaGreatDoor.T

/- Contracts of package token: ranges as items, each end of them written by a function. -/
namespace Go.Proofs.YtfcfcgeodghmpaaGreatDoor.T
open Go.RowKit
set_option linter.unusedVariables false
set_option linter.unusedSimpArgs false

def showR (sh : Int → List Int) (r : Int × Int) : List Int := if r.1 < r.2 then sh r.1 ++ 45 :: sh r.2 else sh r.1
theorem cells2 {W : World} {g : Nat} {x0 x1 : Value} {t : TypeId} (h : W.heap[g]? = some (.cells #[x0, x1] t)) : W.cell? ⟨g, 0, none⟩ = some x0 ∧ W.cell? ⟨g, 1, none⟩ = some x1 := by
  constructor <;> simp [World.cell?, h]
theorem showR_bytes {sh : Int → List Int} {r : Int × Int} (h1 : U.isBytes (sh r.1)) (h2 : U.isBytes (sh r.2)) : U.isBytes (showR sh r) := by
  unfold showR
  split
  · exact bytes_app h1 (bytes_cons (by omega) (by omega) h2)
  · exact h1
set_option maxRecDepth 20000 in
set_option maxHeartbeats 8000000 in
theorem itemsT_S (sh : Int → List Int) (ok : Int → Prop) (hsh : ∀ n, ok n → U.isBytes (sh n) ∧ (sh n).length ≤ 100) (w : World)
    (CE0 : ∀ n, ok n → ∀ W, Below w.heap.size w W → Calls Tryz.prog 163 #[.int .i64 n] W fun e w' => e = .returned (.string (strOfNums (sh n))) ∧ Below W.heap.size W w')
    (a : Option Addr) (len cap : Nat) (l : List (Int × Int)) (h : Rs w a len cap l) (hl : len ≤ 3000) (hok : ∀ r ∈ l, ok r.1 ∧ ok r.2) :
    Calls Tryz.prog 162 #[.slice a len cap, .func (.func 163) #[] #[]] w fun e w' => e = .returned (.string (strOfNums (l.flatMap (showR sh)))) ∧ Below w.heap.size w w' := by
  have hlen := h.hlen
  have hmax := h.hmax
  have hcap := h.hcap
  have HR := hideR h
  have CE := hideR CE0
  have HOK := hideR hok
  have HSH := hideR hsh
  unfold maxLen at hmax
  clear h CE0 hok hsh
  go_enter Tryz.func162, Tryz.ntmps162
  go_wp2_with fail
  go_loopw [10] (fun j wr => ∃ (k : Nat) (acc : List Int), k ≤ len ∧ j = .int .i64 (k : Int) ∧ Hid (acc = (l.take k).flatMap (showR sh)) ∧ Hid (U.isBytes acc) ∧ acc.length ≤ 201 * k ∧ Hid (Bd wr w.heap.size w.heap.size acc) ∧ Hid (w.heap.size < wr.heap.size) ∧ Below w.heap.size w wr) (fun j _ => len - (intOf j).toNat)
  case atStart => exact ⟨0, [], Nat.zero_le _, rfl, (by show [] = _; simp), (fun z hz => by cases hz), by simp, Bd.new w, (by show _ < _; simp), Below.new1 _⟩
  case round =>
    obtain ⟨k, acc, hk, rfl, ha, hab, hal, hB, NE, hb⟩ := hrel
    by_cases hlt : k < len
    · obtain ⟨bb, off, rfl, hr⟩ := (Rs.later (unhideR HR) hb (Nat.le_refl _)).open (by omega)
      obtain ⟨lo, hi, hmem, hd, f1, f2, c0, c1⟩ := hr.at k hlt
      unfold fits at f1 f2
      have hin : (lo, hi) ∈ l := List.mem_of_mem_drop (by rw [hmem]; exact List.mem_cons_self ..)
      have hoo := unhideR HOK (lo, hi) hin
      have OK1 : Hid (ok lo ∧ U.isBytes (sh lo) ∧ (sh lo).length ≤ 100) := ⟨hoo.1, unhideR HSH lo hoo.1⟩
      have OK2 : Hid (ok hi ∧ U.isBytes (sh hi) ∧ (sh hi).length ≤ 100) := ⟨hoo.2, unhideR HSH hi hoo.2⟩
      have HA : Hid (acc ++ showR sh (lo, hi) = (l.take (k + 1)).flatMap (showR sh)) := by
        show _ = _
        rw [hd, List.flatMap_append, ← ha.out]
        simp
      have HAB : Hid (U.isBytes (acc ++ showR sh (lo, hi))) := bytes_app (unhideR hab) (showR_bytes (unhideR OK1).2.1 (unhideR OK2).2.1)
      clear hr hd hmem hin hoo ha hab HR HOK HSH
      by_cases c : lo < hi
      · have es : showR sh (lo, hi) = sh lo ++ 45 :: sh hi := by unfold showR; rw [if_pos c]
        rw [es] at HA HAB
        clear es
        go_wp2_with fail
        refine (unhideR CE lo (unhideR OK1).1 _ (hb.alloc hb.size _)).mono ?_
        rintro e w1 ⟨rfl, b1⟩
        have BD1 := Bd.later (Bd.later (unhideR hB) (Below.new1 (.cells #[.int .i64 lo, .int .i64 hi] 58))) b1
        have HR1 := kept_new b1
        have hs1 : w.heap.size ≤ w1.heap.size := by have := hb.size; have := b1.size; simp at this; omega
        have C1 := hideR (wstr_l w.heap.size w.heap.size acc _ (sh lo) (St.of (unhideR OK1).2.1) w1 BD1 (by have := (unhideR OK1).2.2; omega) hs1)
        clear BD1
        go_wp2_with fail
        refine (unhideR C1).mono ?_
        rintro e w2 ⟨rfl, BD2, b2, k2⟩
        clear C1
        have HR2 : w2.heap[wr.heap.size]? = some (.cells #[.int .i64 lo, .int .i64 hi] 58) := k2 _ _ HR1 (by intro c; injection c with c; have := hb.size; have hh := (unhideR NE); omega) (by intro c fz hh; injection hh with _ hh; exact absurd hh (by decide))
        obtain ⟨q0, q1⟩ := cells2 HR2
        have hs2 : w.heap.size ≤ w2.heap.size := by have := b2.size; omega
        have B2 : Below w.heap.size w w2 := ((hb.alloc hb.size _).trans (b1.mono (by simp; have := hb.size; omega))).trans b2
        clear k2 HR1

        go_wp2_with fail
        refine (unhideR CE hi (unhideR OK2).1 _ B2).mono ?_
        rintro e w3 ⟨rfl, b3⟩
        have BD3 := Bd.later BD2 b3
        have hs3 : w.heap.size ≤ w3.heap.size := by have := b3.size; omega
        have SD := hideR (St.app st_dash (St.of (unhideR OK2).2.1))
        have z2 : (strOfNums (sh hi)).size ≤ 100 := by rw [strOfNums_size]; exact (unhideR OK2).2.2
        clear BD2 q0 q1 HR2
        go_wp2_with fail
        refine (wstr_l w.heap.size w.heap.size (acc ++ sh lo) _ _ (unhideR SD) w3 BD3 (by rw [List.length_append, List.length_append]; have := (unhideR OK1).2.2; have := (unhideR OK2).2.2; simp; omega) hs3).mono ?_
        rintro e w4 ⟨rfl, BD4, b4, -⟩
        go_wp2_with fail
        go_roundw
        case rel => exact ⟨k + 1, acc ++ (sh lo ++ 45 :: sh hi), by omega, by go_num, HA, HAB, by rw [List.length_append, List.length_append, List.length_cons]; have := (unhideR OK1).2.2; have := (unhideR OK2).2.2; omega, (by show Bd _ _ _ _; rw [← List.append_assoc]; exact BD4), (by show _ < _; have := b4.size; have := b3.size; have := b2.size; have := b1.size; simp at this; have := unhideR NE; omega), (B2.trans (b3.mono hs2)).trans b4⟩
        case measure => simp [intOf]; omega
      · have es : showR sh (lo, hi) = sh lo := by unfold showR; rw [if_neg c]
        have c' : hi ≤ lo := by omega
        rw [es] at HA HAB
        clear es
        go_wp2_with fail
        refine (unhideR CE lo (unhideR OK1).1 _ (hb.alloc hb.size _)).mono ?_
        rintro e w1 ⟨rfl, b1⟩
        have BD1 := Bd.later (Bd.later (unhideR hB) (Below.new1 (.cells #[.int .i64 lo, .int .i64 hi] 58))) b1
        have HR1 := kept_new b1
        have hs1 : w.heap.size ≤ w1.heap.size := by have := hb.size; have := b1.size; simp at this; omega
        have C1 := hideR (wstr_l w.heap.size w.heap.size acc _ (sh lo) (St.of (unhideR OK1).2.1) w1 BD1 (by have := (unhideR OK1).2.2; omega) hs1)
        clear BD1
        go_wp2_with fail
        refine (unhideR C1).mono ?_
        rintro e w2 ⟨rfl, BD2, b2, k2⟩
        clear C1
        have HR2 : w2.heap[wr.heap.size]? = some (.cells #[.int .i64 lo, .int .i64 hi] 58) := k2 _ _ HR1 (by intro c; injection c with c; have := hb.size; have hh := (unhideR NE); omega) (by intro c fz hh; injection hh with _ hh; exact absurd hh (by decide))
        obtain ⟨q0, q1⟩ := cells2 HR2
        have hs2 : w.heap.size ≤ w2.heap.size := by have := b2.size; omega
        have B2 : Below w.heap.size w w2 := ((hb.alloc hb.size _).trans (b1.mono (by simp; have := hb.size; omega))).trans b2
        clear k2 HR1

        clear HR2
        go_wp2_with fail
        go_roundw
        case rel => exact ⟨k + 1, acc ++ sh lo, by omega, by go_num, HA, HAB, by rw [List.length_append]; have := (unhideR OK1).2.2; omega, BD2, (by show _ < _; have := b2.size; have := b1.size; simp at this; have := unhideR NE; omega), B2⟩
        case measure => simp [intOf]; omega
    · obtain rfl : k = len := by omega
      have ha' := ha.out
      rw [List.take_of_length_le (by omega)] at ha'
      have C := hideR (bstr_l w.heap.size w.heap.size acc wr (unhideR hB) hb.size)
      rw [ha'] at C
      clear ha ha' hB CE HR HOK HSH
      go_wp2_with fail
      refine (unhideR C).mono ?_
      rintro e w1 ⟨rfl, b1⟩
      clear C
      go_wp2_with fail
      go_ret
      exact ⟨rfl, hb.trans b1⟩
set_option maxRecDepth 20000 in
set_option maxHeartbeats 8000000 in
theorem itemsT_H (sh : Int → List Int) (ok : Int → Prop) (hsh : ∀ n, ok n → U.isBytes (sh n) ∧ (sh n).length ≤ 100) (w : World)
    (CE0 : ∀ n, ok n → ∀ W, Below w.heap.size w W → Calls Tryz.prog 164 #[.int .i64 n] W fun e w' => e = .returned (.string (strOfNums (sh n))) ∧ Below W.heap.size W w')
    (a : Option Addr) (len cap : Nat) (l : List (Int × Int)) (h : Rs w a len cap l) (hl : len ≤ 3000) (hok : ∀ r ∈ l, ok r.1 ∧ ok r.2) :
    Calls Tryz.prog 162 #[.slice a len cap, .func (.func 164) #[] #[]] w fun e w' => e = .returned (.string (strOfNums (l.flatMap (showR sh)))) ∧ Below w.heap.size w w' := by
  have hlen := h.hlen
  have hmax := h.hmax
  have hcap := h.hcap
  have HR := hideR h
  have CE := hideR CE0
  have HOK := hideR hok
  have HSH := hideR hsh
  unfold maxLen at hmax
  clear h CE0 hok hsh
  go_enter Tryz.func162, Tryz.ntmps162
  go_wp2_with fail
  go_loopw [10] (fun j wr => ∃ (k : Nat) (acc : List Int), k ≤ len ∧ j = .int .i64 (k : Int) ∧ Hid (acc = (l.take k).flatMap (showR sh)) ∧ Hid (U.isBytes acc) ∧ acc.length ≤ 201 * k ∧ Hid (Bd wr w.heap.size w.heap.size acc) ∧ Hid (w.heap.size < wr.heap.size) ∧ Below w.heap.size w wr) (fun j _ => len - (intOf j).toNat)
  case atStart => exact ⟨0, [], Nat.zero_le _, rfl, (by show [] = _; simp), (fun z hz => by cases hz), by simp, Bd.new w, (by show _ < _; simp), Below.new1 _⟩
  case round =>
    obtain ⟨k, acc, hk, rfl, ha, hab, hal, hB, NE, hb⟩ := hrel
    by_cases hlt : k < len
    · obtain ⟨bb, off, rfl, hr⟩ := (Rs.later (unhideR HR) hb (Nat.le_refl _)).open (by omega)
      obtain ⟨lo, hi, hmem, hd, f1, f2, c0, c1⟩ := hr.at k hlt
      unfold fits at f1 f2
      have hin : (lo, hi) ∈ l := List.mem_of_mem_drop (by rw [hmem]; exact List.mem_cons_self ..)
      have hoo := unhideR HOK (lo, hi) hin
      have OK1 : Hid (ok lo ∧ U.isBytes (sh lo) ∧ (sh lo).length ≤ 100) := ⟨hoo.1, unhideR HSH lo hoo.1⟩
      have OK2 : Hid (ok hi ∧ U.isBytes (sh hi) ∧ (sh hi).length ≤ 100) := ⟨hoo.2, unhideR HSH hi hoo.2⟩
      have HA : Hid (acc ++ showR sh (lo, hi) = (l.take (k + 1)).flatMap (showR sh)) := by
        show _ = _
        rw [hd, List.flatMap_append, ← ha.out]
        simp
      have HAB : Hid (U.isBytes (acc ++ showR sh (lo, hi))) := bytes_app (unhideR hab) (showR_bytes (unhideR OK1).2.1 (unhideR OK2).2.1)
      clear hr hd hmem hin hoo ha hab HR HOK HSH
      by_cases c : lo < hi
      · have es : showR sh (lo, hi) = sh lo ++ 45 :: sh hi := by unfold showR; rw [if_pos c]
        rw [es] at HA HAB
        clear es
        go_wp2_with fail
        refine (unhideR CE lo (unhideR OK1).1 _ (hb.alloc hb.size _)).mono ?_
        rintro e w1 ⟨rfl, b1⟩
        have BD1 := Bd.later (Bd.later (unhideR hB) (Below.new1 (.cells #[.int .i64 lo, .int .i64 hi] 58))) b1
        have HR1 := kept_new b1
        have hs1 : w.heap.size ≤ w1.heap.size := by have := hb.size; have := b1.size; simp at this; omega
        have C1 := hideR (wstr_l w.heap.size w.heap.size acc _ (sh lo) (St.of (unhideR OK1).2.1) w1 BD1 (by have := (unhideR OK1).2.2; omega) hs1)
        clear BD1
        go_wp2_with fail
        refine (unhideR C1).mono ?_
        rintro e w2 ⟨rfl, BD2, b2, k2⟩
        clear C1
        have HR2 : w2.heap[wr.heap.size]? = some (.cells #[.int .i64 lo, .int .i64 hi] 58) := k2 _ _ HR1 (by intro c; injection c with c; have := hb.size; have hh := (unhideR NE); omega) (by intro c fz hh; injection hh with _ hh; exact absurd hh (by decide))
        obtain ⟨q0, q1⟩ := cells2 HR2
        have hs2 : w.heap.size ≤ w2.heap.size := by have := b2.size; omega
        have B2 : Below w.heap.size w w2 := ((hb.alloc hb.size _).trans (b1.mono (by simp; have := hb.size; omega))).trans b2
        clear k2 HR1

        go_wp2_with fail
        refine (unhideR CE hi (unhideR OK2).1 _ B2).mono ?_
        rintro e w3 ⟨rfl, b3⟩
        have BD3 := Bd.later BD2 b3
        have hs3 : w.heap.size ≤ w3.heap.size := by have := b3.size; omega
        have SD := hideR (St.app st_dash (St.of (unhideR OK2).2.1))
        have z2 : (strOfNums (sh hi)).size ≤ 100 := by rw [strOfNums_size]; exact (unhideR OK2).2.2
        clear BD2 q0 q1 HR2
        go_wp2_with fail
        refine (wstr_l w.heap.size w.heap.size (acc ++ sh lo) _ _ (unhideR SD) w3 BD3 (by rw [List.length_append, List.length_append]; have := (unhideR OK1).2.2; have := (unhideR OK2).2.2; simp; omega) hs3).mono ?_
        rintro e w4 ⟨rfl, BD4, b4, -⟩
        go_wp2_with fail
        go_roundw
        case rel => exact ⟨k + 1, acc ++ (sh lo ++ 45 :: sh hi), by omega, by go_num, HA, HAB, by rw [List.length_append, List.length_append, List.length_cons]; have := (unhideR OK1).2.2; have := (unhideR OK2).2.2; omega, (by show Bd _ _ _ _; rw [← List.append_assoc]; exact BD4), (by show _ < _; have := b4.size; have := b3.size; have := b2.size; have := b1.size; simp at this; have := unhideR NE; omega), (B2.trans (b3.mono hs2)).trans b4⟩
        case measure => simp [intOf]; omega
      · have es : showR sh (lo, hi) = sh lo := by unfold showR; rw [if_neg c]
        have c' : hi ≤ lo := by omega
        rw [es] at HA HAB
        clear es
        go_wp2_with fail
        refine (unhideR CE lo (unhideR OK1).1 _ (hb.alloc hb.size _)).mono ?_
        rintro e w1 ⟨rfl, b1⟩
        have BD1 := Bd.later (Bd.later (unhideR hB) (Below.new1 (.cells #[.int .i64 lo, .int .i64 hi] 58))) b1
        have HR1 := kept_new b1
        have hs1 : w.heap.size ≤ w1.heap.size := by have := hb.size; have := b1.size; simp at this; omega
        have C1 := hideR (wstr_l w.heap.size w.heap.size acc _ (sh lo) (St.of (unhideR OK1).2.1) w1 BD1 (by have := (unhideR OK1).2.2; omega) hs1)
        clear BD1
        go_wp2_with fail
        refine (unhideR C1).mono ?_
        rintro e w2 ⟨rfl, BD2, b2, k2⟩
        clear C1
        have HR2 : w2.heap[wr.heap.size]? = some (.cells #[.int .i64 lo, .int .i64 hi] 58) := k2 _ _ HR1 (by intro c; injection c with c; have := hb.size; have hh := (unhideR NE); omega) (by intro c fz hh; injection hh with _ hh; exact absurd hh (by decide))
        obtain ⟨q0, q1⟩ := cells2 HR2
        have hs2 : w.heap.size ≤ w2.heap.size := by have := b2.size; omega
        have B2 : Below w.heap.size w w2 := ((hb.alloc hb.size _).trans (b1.mono (by simp; have := hb.size; omega))).trans b2
        clear k2 HR1

        clear HR2
        go_wp2_with fail
        go_roundw
        case rel => exact ⟨k + 1, acc ++ sh lo, by omega, by go_num, HA, HAB, by rw [List.length_append]; have := (unhideR OK1).2.2; omega, BD2, (by show _ < _; have := b2.size; have := b1.size; simp at this; have := unhideR NE; omega), B2⟩
        case measure => simp [intOf]; omega
    · obtain rfl : k = len := by omega
      have ha' := ha.out
      rw [List.take_of_length_le (by omega)] at ha'
      have C := hideR (bstr_l w.heap.size w.heap.size acc wr (unhideR hB) hb.size)
      rw [ha'] at C
      clear ha ha' hB CE HR HOK HSH
      go_wp2_with fail
      refine (unhideR C).mono ?_
      rintro e w1 ⟨rfl, b1⟩
      clear C
      go_wp2_with fail
      go_ret
      exact ⟨rfl, hb.trans b1⟩
end Go.Proofs.YtfcfcgeodghmpaaGreatDoor.T

namespace Go.Proofs.YtfcfcgeodghmpaaGreatDoor
open Go.RowKit
set_option linter.unusedVariables false

theorem neqRg (a b c d : Int) (w : World) : (binOp .neq 58 (.agg #[.int .i64 a, .int .i64 b]) (.agg #[.int .i64 c, .int .i64 d])).run Tryz.prog w = .ok (.bool (!(a == c && b == d))) w := by
  have u3 := Tryz.underlying3
  have a3 := Tryz.isAgg3
  have z3 := Tryz.sizeOf3
  have hS : Tryz.prog.underlying 58 = some (.struct (Tryz.prog.fieldsOf 58)) := by kernel_rfl
  have hp : Tryz.prog.stoodInHeld 58 = false := by kernel_rfl
  rw [run_neq_struct, show (10000 : Nat) = 9999 + 1 from rfl, run_equalIn_agg w 9999 58 _ _ hS hp]
  simp only [Program.fieldsOf, Tryz.underlying58]
  go_simp
  by_cases h1 : a = c <;> by_cases h2 : b = d <;> simp [h1, h2]

def sameB (A B : List (Int × Int)) : Bool := decide (A = B)
theorem same_yes {A B : List (Int × Int)} (h : A = B) : sameB A B = true := decide_eq_true h
theorem same_no {A B : List (Int × Int)} (h : A ≠ B) : sameB A B = false := decide_eq_false h

theorem draws_below {w : World} {k : Nat} {B : Nat} : Below B w (w.drewN k) := ⟨rfl, rfl, rfl, Nat.le_refl _, fun _ _ => rfl⟩

theorem take_differ {A B : List (Int × Int)} {k : Nat} {p q : Int × Int} (ha : A.take (k + 1) = A.take k ++ [p]) (hb : B.take (k + 1) = B.take k ++ [q]) (h : p ≠ q) : A ≠ B := by
  intro e
  subst e
  rw [ha] at hb
  simp at hb
  exact h hb

set_option maxHeartbeats 1000000 in
theorem equal_any (a : Option Addr) (la ca : Nat) (A : List (Int × Int)) (b : Option Addr) (lb cb : Nat) (B : List (Int × Int)) (w : World) (ha : Rs w a la ca A) (hb : Rs w b lb cb B) :
    Calls Tryz.prog 47 #[.slice a la ca, .slice b lb cb] w fun e w' => e = .returned (.bool (sameB A B)) ∧ Below w.heap.size w w' := by
  have la' := ha.hlen
  have lb' := hb.hlen
  have ma := ha.hmax
  have mb := hb.hmax
  have ka := ha.hcap
  have kb := hb.hcap
  unfold maxLen at ma mb
  by_cases hl : la = lb
  · subst hl
    have g0 : ((la : Int) != (la : Int)) = false := by simp
    go_enter Tryz.func47, Tryz.ntmps47
    go_wp2
    go_loopw [13] (fun i wr => ∃ (k : Nat), k ≤ la ∧ i = .int .i64 k ∧ Hid (A.take k = B.take k) ∧ Hid (∃ d, wr = w.drewN d)) (fun i _ => la - (intOf i).toNat)
    case atStart => exact ⟨0, Nat.zero_le _, rfl, by show _ = _; simp, ⟨0, rfl⟩⟩
    case round =>
      obtain ⟨k, hk, rfl, ht, hw⟩ := hrel
      obtain ⟨d0, hw⟩ := hw
      have bw : Below w.heap.size w wr := by rw [hw]; exact draws_below
      have hw' := hideR hw
      clear hw
      by_cases hlt : k < la
      · obtain ⟨g, off, rfl, hr⟩ := (ha.later bw (Nat.le_refl _)).open (by omega)
        obtain ⟨g', off', rfl, hr'⟩ := (hb.later bw (Nat.le_refl _)).open (by omega)
        obtain ⟨lo, hi, -, htA, -, -, c0, c1⟩ := hr.at k hlt
        obtain ⟨lo', hi', -, htB, -, -, e0, e1⟩ := hr'.at k hlt
        have k0 : ∀ d, (wr.drewN d).cell? ⟨g, off + k * 2, none⟩ = some (.int .i64 lo) := fun d => by simpa using c0
        have k1 : ∀ d, (wr.drewN d).cell? ⟨g, off + k * 2 + 1, none⟩ = some (.int .i64 hi) := fun d => by simpa using c1
        have l0 : ∀ d, (wr.drewN d).cell? ⟨g', off' + k * 2, none⟩ = some (.int .i64 lo') := fun d => by simpa using e0
        have l1 : ∀ d, (wr.drewN d).cell? ⟨g', off' + k * 2 + 1, none⟩ = some (.int .i64 hi') := fun d => by simpa using e1
        have hA := hideR htA
        have hB := hideR htB
        clear htA htB hr hr' c0 c1 e0 e1
        by_cases hq : lo = lo' ∧ hi = hi'
        · obtain ⟨q1, q2⟩ := hq
          subst q1; subst q2
          have st : Hid (A.take (k + 1) = B.take (k + 1)) := by show _ = _; rw [unhideR hA, unhideR hB, ht.out]
          have hn : ∀ d, (binOp .neq 58 (.agg #[.int .i64 lo, .int .i64 hi]) (.agg #[.int .i64 lo, .int .i64 hi])).run Tryz.prog (wr.drewN d) = .ok (.bool false) (wr.drewN d) := fun d => by rw [neqRg]; simp
          go_wp2
          go_quiet (fail)
          go_wp2
          go_roundw
          case rel => exact ⟨k + 1, by omega, by go_num, st, ⟨d0 + nq, by rw [unhideR hw', World.drewN_drewN]⟩⟩
          case measure => simp [intOf]; omega
        · have fin := hideR (same_no (take_differ (unhideR hA) (unhideR hB) (fun e => hq (by simpa using e))))
          by_cases q1 : lo = lo'
          · subst q1
            have q2 : (hi == hi') = false := by rw [beq_eq_false_iff_ne]; intro e; exact hq ⟨rfl, e⟩
            clear hq
            go_wp2
            go_quiet (fail)
            go_wp2
            go_ret
            exact ⟨ret_bool (unhideR fin).symm, bw.trans draws_below⟩
          · have q2 : (lo == lo') = false := by rw [beq_eq_false_iff_ne]; exact q1
            clear hq q1
            go_wp2
            go_quiet (fail)
            go_wp2
            go_ret
            exact ⟨ret_bool (unhideR fin).symm, bw.trans draws_below⟩
      · have fin : Hid (sameB A B = true) := by
          refine same_yes ?_
          have := ht.out
          rw [List.take_of_length_le (by omega), List.take_of_length_le (by omega)] at this
          exact this
        go_wp2
        go_ret
        exact ⟨ret_bool (unhideR fin).symm, bw⟩
  · have g0 : ((la : Int) != (lb : Int)) = true := by rw [bne_iff_ne]; omega
    rw [same_no (fun e => hl (by rw [← la', ← lb', e]))]
    go_enter Tryz.func47, Tryz.ntmps47
    go_wp2
    go_ret
    exact ⟨rfl, Below.refl _ _⟩

set_option maxHeartbeats 400000 in
theorem rgSame_any (a : Option Addr) (la ca : Nat) (A : List (Int × Int)) (b : Option Addr) (lb cb : Nat) (B : List (Int × Int)) (w : World) (ha : Rs w a la ca A) (hb : Rs w b lb cb B) :
    Calls Tryz.prog 67 #[.slice a la ca, .slice b lb cb] w fun e w' => e = .returned (.bool (sameB A B)) ∧ Below w.heap.size w w' := by
  have hc := equal_any a la ca A b lb cb B w ha hb
  generalize sameB A B = r at *
  clear ha hb
  go_enter Tryz.func67, Tryz.ntmps67
  go_wp2_with (go_at_call 47; refine hc.mono ?_; rintro e w' ⟨rfl, hb⟩)
  go_ret
  exact ⟨rfl, hb⟩

end Go.Proofs.YtfcfcgeodghmpaaGreatDoor

namespace Go.Proofs.YtfcfcgeodghmpaaGreatDoor.T
open Go.RowKit
set_option linter.unusedVariables false
set_option linter.unusedSimpArgs false

theorem and15 (n : Int) : bits .and .i64 n 15 = n % 16 := by
  have h15 : (BitVec.ofInt 64 15).toNat = 2 ^ 4 - 1 := by decide
  have key : (BitVec.ofInt 64 n &&& BitVec.ofInt 64 15).toNat = (n % ((2 ^ 64 : Nat) : Int)).toNat % 2 ^ 4 := by
    rw [BitVec.toNat_and, BitVec.toNat_ofInt, h15, Nat.and_two_pow_sub_one_eq_mod]
  show IntKind.i64.wrap ((BitVec.ofInt 64 n &&& BitVec.ofInt 64 15).toNat : Nat) = n % 16
  rw [key, IntKind.wrap_i64]
  omega
theorem st_digits : St ⟨#[48, 49, 50, 51, 52, 53, 54, 55, 56, 57, 97, 98, 99, 100, 101, 102]⟩ [48, 49, 50, 51, 52, 53, 54, 55, 56, 57, 97, 98, 99, 100, 101, 102] := ⟨rfl, by intro z hz; simp at hz; omega⟩
theorem dig_hex : ∀ k : Fin 16, ([48, 49, 50, 51, 52, 53, 54, 55, 56, 57, 97, 98, 99, 100, 101, 102] : List Int).getD k.val 0 = hexD (k.val : Int) := by decide
theorem ix_digit (z : Int) (h0 : 0 ≤ z) (h1 : z < 16) : ∀ W, (Instr.index 9 (.string ⟨#[48, 49, 50, 51, 52, 53, 54, 55, 56, 57, 97, 98, 99, 100, 101, 102]⟩) (.int .i64 z)).run Tryz.prog W = .ok (.int .u8 (hexD z)) W := by
  intro W
  obtain ⟨k, rfl⟩ := Int.eq_ofNat_of_zero_le h0
  have := st_digits.ix (k := k) (by simp; omega) W
  rw [dig_hex ⟨k, by omega⟩] at this
  exact this
theorem hexD_byte {z : Int} (h0 : 0 ≤ z) (h1 : z < 16) : 0 ≤ hexD z ∧ hexD z ≤ 255 := by
  unfold hexD
  split <;> omega
theorem conv2 (w : World) (x y : Int) (hx : 0 ≤ x ∧ x ≤ 255) (hy : 0 ≤ y ∧ y ≤ 255) : (convert 54 9 (.slice (some ⟨w.heap.size, 0, none⟩) 2 2)).run Tryz.prog (w.alloc (.cells #[.int .u8 x, .int .u8 y] 5)) = .ok (.string (strOfNums [x, y])) (w.alloc (.cells #[.int .u8 x, .int .u8 y] 5)) := by
  have hb : Bs (w.alloc (.cells #[.int .u8 x, .int .u8 y] 5)) (some ⟨w.heap.size, 0, none⟩) 2 2 [x, y] := by
    refine ⟨rfl, Nat.le_refl _, by decide, fun z hz => by simp at hz; rcases hz with rfl | rfl <;> omega, fun i hi => ⟨_, _, rfl, ?_⟩⟩
    have e := heap_alloc_new w (.cells #[.int .u8 x, .int .u8 y] 5)
    obtain ⟨q0, q1⟩ := cells2 e
    have : i = 0 ∨ i = 1 := by omega
    rcases this with rfl | rfl
    · exact q0
    · exact q1
  exact hb.str
def hexT (n : Int) : List Int := [hexD (n / 16 % 16), hexD (n % 16)]
theorem hexT_is {n : Int} (h0 : 0 ≤ n) (h1 : n ≤ 255) : hexT n = hex2 n := by
  unfold hexT hex2
  rw [show n / 16 % 16 = n / 16 by omega]
set_option maxRecDepth 20000 in
set_option maxHeartbeats 4000000 in
theorem hexText_l (n : Int) (h0 : -9223372036854775808 ≤ n) (h1 : n ≤ 9223372036854775807) (w : World) :
    Calls Tryz.prog 164 #[.int .i64 n] w fun e w' => e = .returned (.string (strOfNums (hexT n))) ∧ Below w.heap.size w w' := by
  have e1 := and15 n
  have e2 := and15 (n / 16)
  have i1 := ix_digit (n % 16) (by omega) (by omega)
  have i2 := ix_digit (n / 16 % 16) (by omega) (by omega)
  have b1 := hexD_byte (z := n % 16) (by omega) (by omega)
  have b2 := hexD_byte (z := n / 16 % 16) (by omega) (by omega)
  have cv : (convert 54 9 (.slice (some ⟨w.heap.size, 0, none⟩) 2 2)).run Tryz.prog (w.alloc (.cells #[.int .u8 (hexD (n / 16 % 16)), .int .u8 (hexD (n % 16))] 5)).drew = .ok (.string (strOfNums [hexD (n / 16 % 16), hexD (n % 16)])) (w.alloc (.cells #[.int .u8 (hexD (n / 16 % 16)), .int .u8 (hexD (n % 16))] 5)).drew := conv2 w.drew _ _ b2 b1
  unfold hexT
  generalize n % 16 = z1 at *
  generalize n / 16 % 16 = z2 at *
  generalize hexD z1 = y1 at *
  generalize hexD z2 = y2 at *
  generalize strOfNums [y2, y1] = S at *
  go_enter Tryz.func164, Tryz.ntmps164
  go_wp2_with fail
  go_region
  go_wp2_with fail
  go_ret
  exact ⟨rfl, new_drew' _⟩

/-! ### Literals -/
set_option maxRecDepth 20000 in
set_option maxHeartbeats 4000000 in
theorem litText_l (s : ByteArray) (l : List Int) (h : St s l) (hl : l.length ≤ 3000) (w : World) :
    Calls Tryz.prog 161 #[.string s] w fun e w' => e = .returned (.string (strOfNums (l.flatMap showP))) ∧ Below w.heap.size w w' := by
  have hsz := h.size
  have HS := hideR h
  have CS := hideR standsInLit_l
  have CH := hideR (fun z (h0 : 0 ≤ z) (h1 : z ≤ 255) W => hexText_l z (by omega) (by omega) W)
  have hsl : s.size ≤ 3000 := by omega
  have HZ := hideR hsz
  clear h hsz hl
  go_enter Tryz.func161, Tryz.ntmps161
  go_wp2_with fail
  go_loopw [8] (fun j wr => ∃ (k : Nat) (acc : List Int), k ≤ s.size ∧ j = .int .i64 (k : Int) ∧ Hid (acc = (l.take k).flatMap showP) ∧ Hid (U.isBytes acc) ∧ acc.length ≤ 4 * k ∧ Hid (Bd wr w.heap.size w.heap.size acc) ∧ Below w.heap.size w wr) (fun j _ => s.size - (intOf j).toNat)
  case atStart => exact ⟨0, [], Nat.zero_le _, rfl, (by show [] = _; simp), (fun z hz => by cases hz), by simp, Bd.new w, Below.new1 _⟩
  case round =>
    obtain ⟨k, acc, hk, rfl, ha, hab, hal, hB, hb⟩ := hrel
    by_cases hlt : k < s.size
    · have hkl : k < l.length := by rw [← unhideR HZ]; exact hlt
      have x0 := (unhideR HS).ix hkl
      obtain ⟨z0, z1⟩ := (unhideR HS).byte k
      have HA : Hid (acc ++ showP (l.getD k 0) = (l.take (k + 1)).flatMap showP) := by
        show _ = _
        rw [List.take_succ_eq_append_getElem hkl, List.flatMap_append, ← ha.out]
        simp [List.getD, hkl]
      have CS1 := hideR (unhideR CS (l.getD k 0) z0 z1)
      have CH1 := hideR (unhideR CH (l.getD k 0) z0 z1)
      generalize l.getD k 0 = z at *
      have hbs := hb.size
      cases hr : rawB z with
      | true =>
        have es : showP z = [z] := by unfold showP; rw [hr]; rfl
        rw [es] at HA
        rw [hr] at CS1
        have HAB : Hid (U.isBytes (acc ++ [z])) := bytes_app (unhideR hab) (bytes_cons z0 z1 (fun y hy => by cases hy))
        have CW := hideR (wbyte_l w.heap.size w.heap.size acc z z0 z1 wr (unhideR hB) (by omega) hbs)
        clear es hr CH1 ha hab hB CH CS HS
        go_wp2_with fail
        refine (unhideR CS1 _).mono ?_
        rintro e w1 ⟨rfl, hw1⟩
        obtain rfl : wr = w1 := hw1.symm
        clear hw1 CS1
        go_wp2_with fail
        refine (unhideR CW).mono ?_
        rintro e w2 ⟨rfl, BD, b2, -⟩
        clear CW
        go_wp2_with fail
        go_roundw
        case rel => exact ⟨k + 1, acc ++ [z], by omega, by go_num, HA, HAB, by simp; omega, BD, hb.trans b2⟩
        case measure => simp [intOf]; omega
      | false =>
        have es : showP z = [92, 120] ++ hexT z := by unfold showP; rw [hr, hexT_is z0 z1]; rfl
        rw [es] at HA
        rw [hr] at CS1
        have hhb : U.isBytes (hexT z) := by
          unfold hexT
          have q1 := hexD_byte (z := z % 16) (by omega) (by omega)
          have q2 := hexD_byte (z := z / 16 % 16) (by omega) (by omega)
          exact bytes_cons q2.1 q2.2 (bytes_cons q1.1 q1.2 (fun y hy => by cases hy))
        have SX := hideR (St.app st_bx (St.of hhb))
        have HAB : Hid (U.isBytes (acc ++ ([92, 120] ++ hexT z))) := bytes_app (unhideR hab) (unhideR SX).2
        have hhl : (hexT z).length = 2 := rfl
        have z2 : (strOfNums (hexT z)).size ≤ 100 := by rw [strOfNums_size]; omega
        have CW := hideR (fun W hB hBW => wstr_l w.heap.size w.heap.size acc _ _ (unhideR SX) W hB (by simp; omega) hBW)
        clear es hr ha hab CH CS HS hhb SX
        generalize hexT z = X at *
        go_wp2_with fail
        refine (unhideR CS1 _).mono ?_
        rintro e w1 ⟨rfl, hw1⟩
        obtain rfl : wr = w1 := hw1.symm
        clear hw1 CS1
        go_wp2_with fail
        refine (unhideR CH1 _).mono ?_
        rintro e w1 ⟨rfl, b1⟩
        clear CH1
        go_wp2_with fail
        refine (unhideR CW _ (Bd.later (unhideR hB) b1) (by have := b1.size; omega)).mono ?_
        rintro e w2 ⟨rfl, BD, b2, -⟩
        clear CW hB
        go_wp2_with fail
        go_roundw
        case rel => exact ⟨k + 1, acc ++ ([92, 120] ++ X), by omega, by go_num, HA, HAB, by simp; omega, BD, (hb.trans (b1.mono hbs)).trans b2⟩
        case measure => simp [intOf]; omega
    · obtain rfl : k = s.size := by omega
      have ha' := ha.out
      rw [List.take_of_length_le (by rw [← unhideR HZ]; omega)] at ha'
      have C := hideR (bstr_l w.heap.size w.heap.size acc wr (unhideR hB) hb.size)
      rw [ha'] at C
      clear ha ha' hB CH CS HS
      go_wp2_with fail
      refine (unhideR C).mono ?_
      rintro e w1 ⟨rfl, b1⟩
      clear C
      go_wp2_with fail
      go_ret
      exact ⟨rfl, hb.trans b1⟩
end Go.Proofs.YtfcfcgeodghmpaaGreatDoor.T

/- Contracts of package token: written, and Same. -/
namespace Go.Proofs.YtfcfcgeodghmpaaGreatDoor.T
open Go.RowKit
set_option linter.unusedVariables false
set_option linter.unusedSimpArgs false

def wrL (sh : Int → List Int) (t : Tk) : List Int :=
  if t.1 = 0 ∨ t.1 = 4 then t.2.1 else if t.1 = 5 then [64] ++ t.2.1 else if t.1 = 1 then [34] ++ t.2.1.flatMap showP ++ [34]
  else if t.1 = 2 then [91] ++ t.2.2.flatMap (showR sh) ++ [93] else if t.1 = 3 then [60] ++ t.2.2.flatMap (showR hexT) ++ [62] else []
theorem st1 (c : Int) (h0 : 0 ≤ c) (h1 : c ≤ 255) : St (strOfNums [c]) [c] := St.of (bytes_cons h0 h1 (fun z hz => by cases hz))
theorem showP_bytes {z : Int} (h : 0 ≤ z ∧ z ≤ 255) : U.isBytes (showP z) ∧ (showP z).length ≤ 4 := by
  unfold showP hex2
  split
  · exact ⟨bytes_cons h.1 h.2 (fun y hy => by cases hy), by simp⟩
  · have q1 := hexD_byte (z := z % 16) (by omega) (by omega)
    have q2 := hexD_byte (z := z / 16) (by omega) (by omega)
    exact ⟨bytes_cons (by omega) (by omega) (bytes_cons (by omega) (by omega) (bytes_cons q2.1 q2.2 (bytes_cons q1.1 q1.2 (fun y hy => by cases hy)))), by simp⟩
theorem flat_bytes {α : Type} (f : α → List Int) (N : Nat) : ∀ (l : List α), (∀ x ∈ l, U.isBytes (f x) ∧ (f x).length ≤ N) → U.isBytes (l.flatMap f) ∧ (l.flatMap f).length ≤ N * l.length := by
  intro l
  induction l with
  | nil => intro _; exact ⟨(fun z hz => by cases hz), Nat.zero_le _⟩
  | cons x l ih =>
    intro h
    obtain ⟨h1, h2⟩ := h x (List.mem_cons_self ..)
    obtain ⟨h3, h4⟩ := ih fun y hy => h y (List.mem_cons_of_mem _ hy)
    rw [List.flatMap_cons]
    refine ⟨bytes_app h1 h3, ?_⟩
    rw [List.length_append, List.length_cons, Nat.mul_succ]
    omega
theorem hexT_bytes (n : Int) : U.isBytes (hexT n) ∧ (hexT n).length ≤ 100 := by
  unfold hexT
  have q1 := hexD_byte (z := n % 16) (by omega) (by omega)
  have q2 := hexD_byte (z := n / 16 % 16) (by omega) (by omega)
  exact ⟨bytes_cons q2.1 q2.2 (bytes_cons q1.1 q1.2 (fun y hy => by cases hy)), by simp⟩
theorem showR_len {sh : Int → List Int} {r : Int × Int} (h1 : (sh r.1).length ≤ 100) (h2 : (sh r.2).length ≤ 100) : (showR sh r).length ≤ 201 := by
  unfold showR
  split
  · rw [List.length_append, List.length_cons]; omega
  · omega
structure TokA (w : World) (t : Tk) (a : Option Addr) (c : Nat) : Prop where
  hk : fits t.1
  hx : U.isBytes t.2.1
  hxl : t.2.1.length ≤ 3000
  hr : Rs w a t.2.2.length c t.2.2
  hrl : t.2.2.length ≤ 3000
def Enders (w : World) (sh : Int → List Int) (R : List (Int × Int)) : Prop := ∃ ok : Int → Prop, (∀ n, ok n → U.isBytes (sh n) ∧ (sh n).length ≤ 100) ∧ (∀ r ∈ R, ok r.1 ∧ ok r.2) ∧
  ∀ n, ok n → ∀ W, Below w.heap.size w W → Calls Tryz.prog 163 #[.int .i64 n] W fun e w' => e = .returned (.string (strOfNums (sh n))) ∧ Below W.heap.size W w'
theorem Enders.later {w w' : World} {sh : Int → List Int} {R : List (Int × Int)} (h : Enders w sh R) (b : Below w.heap.size w w') : Enders w' sh R := by
  obtain ⟨ok, h1, h2, h3⟩ := h
  exact ⟨ok, h1, h2, fun n hn W hW => h3 n hn W (b.trans (hW.mono b.size))⟩
theorem wr_bytes {w : World} {sh : Int → List Int} {t : Tk} (hx : U.isBytes t.2.1) (hxl : t.2.1.length ≤ 3000) (hrl : t.2.2.length ≤ 3000) (he : Enders w sh t.2.2) : U.isBytes (wrL sh t) ∧ (wrL sh t).length ≤ 1000000 := by
  obtain ⟨ok, h1, h2, -⟩ := he
  have one : ∀ c : Int, 0 ≤ c → c ≤ 255 → U.isBytes [c] := fun c a b => bytes_cons a b (fun z hz => by cases hz)
  have p1 := flat_bytes showP 4 t.2.1 (fun z hz => showP_bytes (hx z hz))
  have p2 := flat_bytes (showR sh) 201 t.2.2 (fun r hr => ⟨showR_bytes (h1 _ (h2 r hr).1).1 (h1 _ (h2 r hr).2).1, showR_len (h1 _ (h2 r hr).1).2 (h1 _ (h2 r hr).2).2⟩)
  have p3 := flat_bytes (showR hexT) 201 t.2.2 (fun r hr => ⟨showR_bytes (hexT_bytes _).1 (hexT_bytes _).1, showR_len (hexT_bytes _).2 (hexT_bytes _).2⟩)
  unfold wrL
  split
  · exact ⟨hx, by omega⟩
  · split
    · exact ⟨bytes_app (one 64 (by omega) (by omega)) hx, by simp; omega⟩
    · split
      · exact ⟨bytes_app (bytes_app (one 34 (by omega) (by omega)) p1.1) (one 34 (by omega) (by omega)), by rw [List.length_append, List.length_append]; simp only [List.length_cons, List.length_nil]; omega⟩
      · split
        · exact ⟨bytes_app (bytes_app (one 91 (by omega) (by omega)) p2.1) (one 93 (by omega) (by omega)), by rw [List.length_append, List.length_append]; simp only [List.length_cons, List.length_nil]; omega⟩
        · split
          · exact ⟨bytes_app (bytes_app (one 60 (by omega) (by omega)) p3.1) (one 62 (by omega) (by omega)), by rw [List.length_append, List.length_append]; simp only [List.length_cons, List.length_nil]; omega⟩
          · exact ⟨(fun z hz => by cases hz), by simp⟩
def tokAgg (t : Tk) (a : Option Addr) (c : Nat) (p : Int) : Array Value := #[.int .i64 t.1, .string (strOfNums t.2.1), .slice a t.2.2.length c, .int .i64 p]
set_option maxRecDepth 20000 in
set_option maxHeartbeats 8000000 in
theorem written_l (sh : Int → List Int) (t : Tk) (a : Option Addr) (c : Nat) (p : Int) (w : World) (h : TokA w t a c) (he : Enders w sh t.2.2) :
    Calls Tryz.prog 135 #[.agg (tokAgg t a c p)] w fun e w' => e = .returned (.string (strOfNums (wrL sh t))) ∧ Below w.heap.size w w' := by
  obtain ⟨k, x, R⟩ := t
  unfold tokAgg wrL
  have hk := h.hk
  have hx := h.hx
  have hxl := h.hxl
  have hr := h.hr
  have hrl := h.hrl
  simp only at hk hx hxl hr hrl he ⊢
  clear h
  unfold fits at hk
  have sx : St (strOfNums x) x := St.of hx
  have zx : (strOfNums x).size ≤ 3000 := by rw [strOfNums_size]; exact hxl
  obtain ⟨ok, h1, h2, h3⟩ := he
  have one : ∀ d : Int, 0 ≤ d → d ≤ 255 → St (strOfNums [d]) [d] := st1
  by_cases c0 : k = 0
  · subst c0
    rw [if_pos (.inl rfl)]
    generalize strOfNums x = S at *
    clear h3 hr sx
    go_enter Tryz.func135, Tryz.ntmps135
    go_wp2_with fail
    go_ret
    exact ⟨rfl, Below.new1 _⟩
  have d0 : (k == 0) = false := beq_eq_false_iff_ne.2 c0
  by_cases c4 : k = 4
  · subst c4
    rw [if_pos (.inr rfl)]
    generalize strOfNums x = S at *
    clear h3 hr sx
    go_enter Tryz.func135, Tryz.ntmps135
    go_wp2_with fail
    go_ret
    exact ⟨rfl, Below.new1 _⟩
  have d4 : (k == 4) = false := beq_eq_false_iff_ne.2 c4
  rw [if_neg (by omega)]
  by_cases c5 : k = 5
  · subst c5
    rw [if_pos rfl, ← (St.app (st1 64 (by omega) (by omega)) sx).1]
    have e64 : strOfNums [64] = ⟨#[64]⟩ := rfl
    rw [e64]
    generalize strOfNums x = S at *
    clear h3 hr sx e64
    go_enter Tryz.func135, Tryz.ntmps135
    go_wp2_with fail
    go_ret
    exact ⟨rfl, Below.new1 _⟩
  have d5 : (k == 5) = false := beq_eq_false_iff_ne.2 c5
  rw [if_neg c5]
  by_cases c1 : k = 1
  · subst c1
    have p1 := flat_bytes showP 4 x (fun z hz => showP_bytes (hx z hz))
    have C := hideR (fun W => litText_l _ x sx hxl W)
    have zl : (strOfNums (x.flatMap showP)).size ≤ 12000 := by rw [strOfNums_size]; omega
    rw [if_pos rfl, ← (St.app (St.app (st1 34 (by omega) (by omega)) (St.of p1.1)) (st1 34 (by omega) (by omega))).1]
    have e34 : strOfNums [34] = ⟨#[34]⟩ := rfl
    rw [e34]
    clear h3 hr sx e34 p1
    generalize strOfNums (x.flatMap showP) = L at *
    generalize strOfNums x = S at *
    go_enter Tryz.func135, Tryz.ntmps135
    go_wp2_with fail
    refine (unhideR C _).mono ?_
    rintro e w1 ⟨rfl, b1⟩
    clear C
    go_wp2_with fail
    go_ret
    exact ⟨rfl, bthen (Below.new1 _) b1⟩
  have d1 : (k == 1) = false := beq_eq_false_iff_ne.2 c1
  rw [if_neg c1]
  by_cases c2 : k = 2
  · subst c2
    have p2 := flat_bytes (showR sh) 201 R (fun r hr => ⟨showR_bytes (h1 _ (h2 r hr).1).1 (h1 _ (h2 r hr).2).1, showR_len (h1 _ (h2 r hr).1).2 (h1 _ (h2 r hr).2).2⟩)
    have C := hideR (fun (o : Obj) => itemsT_S sh ok h1 (w.alloc o) (fun n hn W hW => h3 n hn W ((Below.new1 o).trans (hW.mono (by simp)))) a R.length c R (Rs.later hr (Below.new1 o) (Nat.le_refl _)) hrl h2)
    have zl : (strOfNums (R.flatMap (showR sh))).size ≤ 603000 := by rw [strOfNums_size]; omega
    rw [if_pos rfl, ← (St.app (St.app (st1 91 (by omega) (by omega)) (St.of p2.1)) (st1 93 (by omega) (by omega))).1]
    have e34 : strOfNums [91] = ⟨#[91]⟩ := rfl
    have e35 : strOfNums [93] = ⟨#[93]⟩ := rfl
    rw [e34, e35]
    clear h3 hr sx e34 e35 p2
    generalize strOfNums (R.flatMap (showR sh)) = L at *
    generalize strOfNums x = S at *
    go_enter Tryz.func135, Tryz.ntmps135
    go_wp2_with fail
    refine (unhideR C _).mono ?_
    rintro e w1 ⟨rfl, b1⟩
    clear C
    go_wp2_with fail
    go_ret
    exact ⟨rfl, bthen (Below.new1 _) b1⟩
  have d2 : (k == 2) = false := beq_eq_false_iff_ne.2 c2
  rw [if_neg c2]
  by_cases c3 : k = 3
  · subst c3
    have p2 := flat_bytes (showR hexT) 201 R (fun r hr => ⟨showR_bytes (hexT_bytes _).1 (hexT_bytes _).1, showR_len (hexT_bytes _).2 (hexT_bytes _).2⟩)
    have hf := hr.hfit
    have C := hideR (fun (o : Obj) => itemsT_H hexT fits (fun n _ => hexT_bytes n) (w.alloc o) (fun n hn W hW => hexText_l n hn.1 hn.2 W) a R.length c R (Rs.later hr (Below.new1 o) (Nat.le_refl _)) hrl hf)
    have zl : (strOfNums (R.flatMap (showR hexT))).size ≤ 603000 := by rw [strOfNums_size]; omega
    rw [if_pos rfl, ← (St.app (St.app (st1 60 (by omega) (by omega)) (St.of p2.1)) (st1 62 (by omega) (by omega))).1]
    have e34 : strOfNums [60] = ⟨#[60]⟩ := rfl
    have e35 : strOfNums [62] = ⟨#[62]⟩ := rfl
    rw [e34, e35]
    clear h3 hr sx e34 e35 p2 hf
    generalize strOfNums (R.flatMap (showR hexT)) = L at *
    generalize strOfNums x = S at *
    go_enter Tryz.func135, Tryz.ntmps135
    go_wp2_with fail
    refine (unhideR C _).mono ?_
    rintro e w1 ⟨rfl, b1⟩
    clear C
    go_wp2_with fail
    go_ret
    exact ⟨rfl, bthen (Below.new1 _) b1⟩
  have d3 : (k == 3) = false := beq_eq_false_iff_ne.2 c3
  rw [if_neg c3]
  generalize strOfNums x = S at *
  clear h3 hr sx
  go_enter Tryz.func135, Tryz.ntmps135
  go_wp2_with fail
  go_ret
  exact ⟨rfl, Below.new1 _⟩

/-! ### Same -/
theorem str_eq_list {s u : ByteArray} {x y : List Int} (h : St s x) (k : St u y) : (s.toList == u.toList) = decide (x = y) := by
  have key : s.toList = u.toList ↔ x = y := by
    have h2 := st_list h y k.2
    have h3 := (st_list k y k.2).2 rfl
    rw [h3]
    exact h2
  by_cases e : x = y
  · rw [decide_eq_true e, beq_iff_eq]; exact key.2 e
  · rw [decide_eq_false e, beq_eq_false_iff_ne]; exact fun c => e (key.1 c)
set_option maxRecDepth 20000 in
set_option maxHeartbeats 8000000 in
theorem same_l (t u : Tk) (a b : Option Addr) (c d : Nat) (p q : Int) (w : World) (hk : fits t.1) (hx : U.isBytes t.2.1) (hr : Rs w a t.2.2.length c t.2.2) (hk2 : fits u.1) (hx2 : U.isBytes u.2.1) (hr2 : Rs w b u.2.2.length d u.2.2) :
    Calls Tryz.prog 160 #[.agg (tokAgg t a c p), .agg (tokAgg u b d q)] w fun e w' => e = .returned (.bool (decide (t = u))) ∧ Below w.heap.size w w' := by
  obtain ⟨k, x, R⟩ := t
  obtain ⟨k2, x2, R2⟩ := u
  unfold tokAgg
  simp only at *
  have se := str_eq_list (St.of hx) (St.of hx2)
  have B2 : ∀ o1 o2, Below w.heap.size w ((w.alloc o1).alloc o2) := fun o1 o2 => (Below.new1 o1).alloc (by simp) o2
  have C := hideR (fun o1 o2 => rgSame_any a R.length c R b R2.length d R2 ((w.alloc o1).alloc o2) (Rs.later hr (B2 o1 o2) (Nat.le_refl _)) (Rs.later hr2 (B2 o1 o2) (Nat.le_refl _)))
  have hs : sameB R R2 = decide (R = R2) := rfl
  rw [hs] at C
  clear hr hr2 hx hx2 hs
  by_cases e1 : k = k2
  · have t1 : (k == k2) = true := by rw [e1]; simp
    by_cases e2 : x = x2
    · rw [decide_eq_true e2] at se
      have fin : decide ((k, x, R) = (k2, x2, R2)) = decide (R = R2) := by simp [e1, e2]
      rw [fin]
      generalize decide (R = R2) = r at *
      generalize strOfNums x = S at *
      generalize strOfNums x2 = S2 at *
      clear fin e2
      go_enter Tryz.func160, Tryz.ntmps160
      go_wp2_with fail
      refine (unhideR C _ _).mono ?_
      rintro e w1 ⟨rfl, b1⟩
      clear C
      go_wp2_with fail
      go_ret
      exact ⟨rfl, (B2 _ _).trans (b1.mono (by simp; omega))⟩
    · rw [decide_eq_false e2] at se
      have fin : decide ((k, x, R) = (k2, x2, R2)) = false := by simp [e2]
      rw [fin]
      generalize strOfNums x = S at *
      generalize strOfNums x2 = S2 at *
      have se2 : ¬ S.toList = S2.toList := beq_eq_false_iff_ne.1 se
      clear fin e2
      go_enter Tryz.func160, Tryz.ntmps160
      go_wp2_with fail
      go_ret
      exact ⟨retB (by first | rfl | exact se | simp [se2] | simp [se]), B2 _ _⟩
  · have t1 : (k == k2) = false := beq_eq_false_iff_ne.2 e1
    have fin : decide ((k, x, R) = (k2, x2, R2)) = false := by simp [e1]
    rw [fin]
    generalize strOfNums x = S at *
    generalize strOfNums x2 = S2 at *
    clear fin e1 se
    go_enter Tryz.func160, Tryz.ntmps160
    go_wp2_with fail
    go_ret
    exact ⟨retB (by first | rfl | exact t1 | simp [t1]), B2 _ _⟩
end Go.Proofs.YtfcfcgeodghmpaaGreatDoor.T

namespace Go.Proofs.YtfcfcgeodghmpaaGreatDoor.T
open Go.RowKit
set_option linter.unusedVariables false
set_option linter.unusedSimpArgs false

theorem tkc_at {w : World} : ∀ (ts : List (Tk × Nat)) (cs : List Value) (i : Nat) (t : Tk) (p : Nat), TkC w ts cs → ts[i]? = some (t, p) → ∃ c0 c1 c2 c3, cs[4 * i]? = some c0 ∧ cs[4 * i + 1]? = some c1 ∧ cs[4 * i + 2]? = some c2 ∧ cs[4 * i + 3]? = some c3 ∧ TokV w (.agg #[c0, c1, c2, c3]) t p := by
  intro ts
  induction ts with
  | nil => intro cs i t p _ h; simp at h
  | cons x ts ih =>
    obtain ⟨t', p'⟩ := x
    intro cs i t p hc h
    obtain ⟨c0, c1, c2, c3, cs', rfl, hv, hr⟩ := hc
    cases i with
    | zero =>
      simp only [List.getElem?_cons_zero, Option.some.injEq, Prod.mk.injEq] at h
      obtain ⟨rfl, rfl⟩ := h
      exact ⟨c0, c1, c2, c3, rfl, rfl, rfl, rfl, hv⟩
    | succ i =>
      rw [List.getElem?_cons_succ] at h
      obtain ⟨d0, d1, d2, d3, e0, e1, e2, e3, hv'⟩ := ih cs' i t p hr h
      refine ⟨d0, d1, d2, d3, ?_, ?_, ?_, ?_, hv'⟩
      · rw [show 4 * (i + 1) = 4 * i + 4 by omega]; exact e0
      · rw [show 4 * (i + 1) + 1 = (4 * i + 1) + 4 by omega]; exact e1
      · rw [show 4 * (i + 1) + 2 = (4 * i + 2) + 4 by omega]; exact e2
      · rw [show 4 * (i + 1) + 3 = (4 * i + 3) + 4 by omega]; exact e3
theorem tks_at {w : World} {base : Nat} {v : Value} {ts : List (Tk × Nat)} (h : Tks w base v ts) {i : Nat} {t : Tk} {p : Nat} (hi : ts[i]? = some (t, p)) :
    ∃ g cap a c, v = .slice (some ⟨g, 0, none⟩) ts.length cap ∧ ts.length ≤ cap ∧ cap ≤ maxLen ∧ base ≤ g ∧ w.cell? ⟨g, 4 * i, none⟩ = some (.int .i64 t.1) ∧ w.cell? ⟨g, 4 * i + 1, none⟩ = some (.string (strOfNums t.2.1)) ∧ w.cell? ⟨g, 4 * i + 2, none⟩ = some (.slice a t.2.2.length c) ∧ w.cell? ⟨g, 4 * i + 3, none⟩ = some (.int .i64 (p : Int)) ∧ Rs w a t.2.2.length c t.2.2 := by
  obtain ⟨cs, ho, hc⟩ := h
  have hlt : i < ts.length := (List.getElem?_eq_some_iff.1 hi).1
  rcases ho.2 with ⟨_, h0⟩ | ⟨g, cap, cur, rfl, hb, hg, hn, hm, hs, ht⟩
  · omega
  · obtain ⟨c0, c1, c2, c3, e0, e1, e2, e3, a, c, ev, hr, -⟩ := tkc_at ts cs i t p hc hi
    injection ev with ev
    have key : ∀ (j : Nat) (u : Value), cs[j]? = some u → w.cell? ⟨g, j, none⟩ = some u := by
      intro j u hj
      have := World.ownsRow.cells ho (g := g) rfl j u hj
      rw [Addr.add_lit, Nat.zero_add] at this
      exact this
    have ev2 := congrArg Array.toList ev
    simp only [List.cons.injEq, and_true] at ev2
    obtain ⟨rfl, rfl, rfl, rfl⟩ := ev2
    exact ⟨g, cap, a, c, rfl, hn, hm, hb, key _ _ e0, key _ _ e1, key _ _ e2, key _ _ e3, hr⟩
theorem ok_parts {t : Tk} (h : okT t) : fits t.1 ∧ U.isBytes t.2.1 := by
  have hb := (text_facts h).2.2
  obtain ⟨k, x, R⟩ := t
  unfold okT at h
  unfold textL at hb
  simp only at *
  rcases h with ⟨rfl, _⟩ | ⟨rfl, _⟩ | ⟨rfl, _⟩ | ⟨rfl, _, h, _⟩ | ⟨rfl, rfl, _⟩ | ⟨rfl, rfl, _⟩
  · exact ⟨by unfold fits; omega, hb⟩
  · exact ⟨by unfold fits; omega, U.isBytes_tail hb⟩
  · exact ⟨by unfold fits; omega, hb⟩
  · exact ⟨by unfold fits; omega, h⟩
  · exact ⟨by unfold fits; omega, fun z hz => by cases hz⟩
  · exact ⟨by unfold fits; omega, fun z hz => by cases hz⟩
theorem allL_ok {s : List Int} (hb : U.isBytes s) {ts : List (Tk × Nat)} (h : allL s = .inr ts) : ∀ p ∈ ts, okT p.1 := by
  by_cases c : s.length ≤ 3000
  · rw [allL_is c] at h
    exact all_ok _ _ _ _ _ hb (Nat.le_refl _) h
  · unfold allL at h
    rw [if_pos (by omega)] at h
    cases h
def oneB (t : Tk) : Sum (Nat × Int) (List (Tk × Nat)) → Bool
  | .inr [(u, _)] => decide (u = t)
  | _ => false
def mayW (sh : Int → List Int) (t : Tk) : Bool := oneB t (allL (wrL sh t))
theorem mayW_of {sh : Int → List Int} {t : Tk} {x : Sum (Nat × Int) (List (Tk × Nat))} (h : allL (wrL sh t) = x) : mayW sh t = oneB t x := by
  unfold mayW
  rw [h]
set_option maxRecDepth 20000 in
set_option maxHeartbeats 8000000 in
theorem may_l (sh : Int → List Int) (t : Tk) (a : Option Addr) (c : Nat) (p : Int) (w : World) (h : TokA w t a c) (he : Enders w sh t.2.2) :
    Calls Tryz.prog 134 #[.agg (tokAgg t a c p)] w fun e w' => e = .returned (.bool (mayW sh t)) ∧ Below w.heap.size w w' := by
  have hxl := h.hxl
  have hrl := h.hrl
  have hcap := h.hr.hcap
  have zx : (strOfNums t.2.1).size ≤ 3000 := by rw [strOfNums_size]; exact hxl
  have wb := wr_bytes h.hx h.hxl h.hrl he
  have B1 : ∀ o, Below w.heap.size w (w.alloc o) := fun o => Below.new1 o
  have CW := hideR (fun o => written_l sh t a c p (w.alloc o) ⟨h.hk, h.hx, h.hxl, Rs.later h.hr (B1 o) (Nat.le_refl _), h.hrl⟩ (he.later (B1 o)))
  have CA := hideR (fun W => all_l _ _ (St.of wb.1) wb.2 W)
  have HA := hideR h
  have CS := hideR (fun (u : Tk) (b : Option Addr) (d : Nat) (q : Int) W (f1 : fits u.1) (f2 : U.isBytes u.2.1) (r1 : Rs W b u.2.2.length d u.2.2) (r2 : Rs W a t.2.2.length c t.2.2) => same_l u t b a d c q p W f1 f2 r1 (unhideR HA).hk (unhideR HA).hx r2)
  have HM := hideR (fun x (hx : allL (wrL sh t) = x) => mayW_of hx)
  generalize mayW sh t = M at *
  have HWB := hideR wb.1
  clear h he wb
  unfold tokAgg at *
  generalize hx : strOfNums t.2.1 = S at *
  generalize hWL : wrL sh t = WL at *
  go_enter Tryz.func134, Tryz.ntmps134
  go_wp2_with fail
  refine (unhideR CW _).mono ?_
  rintro e w1 ⟨rfl, b1⟩
  clear CW
  have HG := kept_new b1
  obtain ⟨q0, q1, q2, q3⟩ := (cells4 HG).1
  go_wp2_with fail
  refine (unhideR CA _).mono ?_
  rintro e w2 ⟨ar, b2⟩
  clear CA q0 q1 q2 q3 HG
  have B2 := bthen b1 b2
  have HG := kept_new B2
  obtain ⟨q0, q1, q2, q3⟩ := (cells4 HG).1
  rcases ar with ⟨pa, er, ea, rfl⟩ | ⟨ts, v, ea, rfl, tk⟩
  · have em := unhideR HM _ ea
    simp only [oneB] at em
    clear HM CS HA ea
    subst em
    go_wp2_with fail
    go_region
    go_wp2_with fail
    go_ret
    refine ⟨rfl, ?_⟩
    exact ((B1 _).trans (B2.mono (by simp))).trans draws_b
  · by_cases h1 : ts.length = 1
    · obtain ⟨⟨u, k⟩, rfl⟩ : ∃ x, ts = [x] := List.length_eq_one_iff.1 h1
      have em := unhideR HM _ ea
      simp only [oneB] at em
      obtain ⟨g, cap, b, d, rfl, g1, g2, g3, y0, y1, y2, y3, hr⟩ := tks_at tk (i := 0) rfl
      simp only [Nat.mul_zero, Nat.zero_add, List.length_singleton] at g1 y0 y1 y2 y3
      have fu : fits u.1 ∧ U.isBytes u.2.1 := ok_parts (allL_ok (unhideR HWB) ea (u, k) (List.mem_singleton.2 rfl))
      have rt : Rs w2 a t.2.2.length c t.2.2 := Rs.later (unhideR HA).hr ((B1 _).trans (B2.mono (by simp))) (Nat.le_refl _)
      have C1 := hideR (fun W (bW : Below w2.heap.size w2 W) => unhideR CS u b d (k : Int) W fu.1 fu.2 (Rs.later hr bW (Nat.le_refl _)) (Rs.later rt bW (Nat.le_refl _)))
      rw [← em] at C1
      clear HM CS HA ea em hr rt fu tk HWB
      generalize strOfNums u.2.1 = S2 at *
      go_wp2_with fail
      go_region_with (go_at_call 160; refine (unhideR C1 _ draws_b).mono ?_; rintro e w3 ⟨rfl, b3⟩)
      all_goals (go_wp2_with fail)
      all_goals go_ret
      all_goals exact ⟨rfl, (((B1 _).trans (B2.mono (by simp))).trans draws_b).trans (b3.mono (by have := B2.size; simp at this; show _ ≤ w2.heap.size; omega))⟩
    · have em := unhideR HM _ ea
      have em2 : M = false := by
        rw [em]
        match ts, h1 with
        | [], _ => rfl
        | [x], h => exact absurd rfl h
        | _ :: _ :: _, _ => rfl
      obtain ⟨cs, ho, -⟩ := tk
      obtain ⟨p7, c7, e7⟩ := own_form ho
      have t1 : ((ts.length : Int) == 1) = false := beq_eq_false_iff_ne.2 (by omega)
      clear HM CS HA ea em ho
      subst em2
      subst e7
      go_wp2_with fail
      go_region
      go_wp2_with fail
      go_ret
      refine ⟨rfl, ?_⟩
      exact ((B1 _).trans (B2.mono (by simp))).trans draws_b
end Go.Proofs.YtfcfcgeodghmpaaGreatDoor.T

/- Contracts of package token: Text; the chapter's example. -/
namespace Go.Proofs.YtfcfcgeodghmpaaGreatDoor.T
open Go.RowKit
set_option linter.unusedVariables false
set_option linter.unusedSimpArgs false

def txtW (sh : Int → List Int) (t : Tk) : List Int := if mayW sh t then wrL sh t else []
set_option maxRecDepth 20000 in
set_option maxHeartbeats 8000000 in
theorem text_l (sh : Int → List Int) (t : Tk) (a : Option Addr) (c : Nat) (p : Int) (w : World) (h : TokA w t a c) (he : Enders w sh t.2.2) :
    Calls Tryz.prog 96 #[.agg (tokAgg t a c p)] w fun e w' => e = .returned (.string (strOfNums (txtW sh t))) ∧ Below w.heap.size w w' := by
  have B1 : ∀ o, Below w.heap.size w (w.alloc o) := fun o => Below.new1 o
  have CM := hideR (fun o => may_l sh t a c p (w.alloc o) ⟨h.hk, h.hx, h.hxl, Rs.later h.hr (B1 o) (Nat.le_refl _), h.hrl⟩ (he.later (B1 o)))
  have CW := hideR (fun W (bW : Below w.heap.size w W) => written_l sh t a c p W ⟨h.hk, h.hx, h.hxl, Rs.later h.hr bW (Nat.le_refl _), h.hrl⟩ (he.later bW))
  unfold txtW tokAgg at *
  clear h he
  generalize strOfNums t.2.1 = S at *
  cases em : mayW sh t with
  | false =>
    rw [em] at CM
    rw [if_neg (by simp)]
    have e0 : strOfNums [] = ⟨#[]⟩ := rfl
    rw [e0]
    clear e0 em CW
    go_enter Tryz.func96, Tryz.ntmps96
    go_wp2_with fail
    refine (unhideR CM _).mono ?_
    rintro e w1 ⟨rfl, b1⟩
    clear CM
    go_wp2_with fail
    go_ret
    exact ⟨rfl, bthen (B1 _) b1⟩
  | true =>
    rw [em] at CM
    rw [if_pos rfl]
    generalize strOfNums (wrL sh t) = X at *
    clear em
    go_enter Tryz.func96, Tryz.ntmps96
    go_wp2_with fail
    refine (unhideR CM _).mono ?_
    rintro e w1 ⟨rfl, b1⟩
    clear CM
    obtain ⟨q0, q1, q2, q3⟩ := (cells4 (kept_new b1)).1
    go_wp2_with fail
    refine (unhideR CW _ (bthen (B1 _) b1)).mono ?_
    rintro e w2 ⟨rfl, b2⟩
    clear CW
    go_wp2_with fail
    go_ret
    exact ⟨rfl, bthen (bthen (B1 _) b1) b2⟩

/-! ### The example -/
end Go.Proofs.YtfcfcgeodghmpaaGreatDoor.T

namespace Go.Proofs.YtfcfcgeodghmpaaGreatDoor.R
open Go.RowKit Go.Proofs.YtfcfcgeodghmpaaGreatDoor.T
set_option linter.unusedVariables false
set_option linter.unusedSimpArgs false

/-! ### What stays but for one block -/
abbrev Bu (b : Nat) (w w' : World) : Prop := w.grownBy w' (some b)
theorem Bu.refl (b : Nat) (w : World) : Bu b w w := ⟨rfl, rfl, rfl, Nat.le_refl _, fun _ _ _ => rfl⟩
theorem Bu.then {b : Nat} {w w1 w2 : World} (h : Bu b w w1) (k : Bu b w1 w2) : Bu b w w2 :=
  ⟨k.os.trans h.os, k.tape.trans h.tape, k.output.trans h.output, Nat.le_trans h.size k.size, fun i hi hn => (k.block i (Nat.lt_of_lt_of_le hi h.size) hn).trans (h.block i hi hn)⟩
theorem Bu.of {b : Nat} {w w' : World} (h : Below w.heap.size w w') : Bu b w w' := ⟨h.os, h.tape, h.output, h.size, fun k hk _ => h.block k hk⟩
theorem Bu.set (b i : Nat) (w : World) (v : Value) : Bu b w (w.setCell ⟨b, i, none⟩ v) :=
  ⟨rfl, rfl, rfl, by simp, fun k _ hn => Below.heap_setCell w ⟨b, i, none⟩ v k (fun e => hn (by rw [e]))⟩
theorem Bu.at {b : Nat} {w w' : World} (h : Bu b w w') {k : Nat} {o : Obj} (hk : w.heap[k]? = some o) (hn : k ≠ b) : w'.heap[k]? = some o :=
  (h.block k (Array.getElem?_eq_some_iff.1 hk).1 (fun e => hn (by injection e))).trans hk
theorem Bu.below {b : Nat} {w w' : World} (h : Bu b w w') {B : Nat} (hB : B ≤ b) (hs : B ≤ w.heap.size) : Below B w w' :=
  ⟨h.os, h.tape, h.output, h.size, fun k hk => h.block k (by omega) (fun e => by injection e; omega)⟩

/-! ### Ranges and tokens that stay -/
theorem ty_ne {w : World} {a : Option Addr} (h : Ty w a) {b : Nat} {cs : Array Value} {t : TypeId} {fr : Nat × Nat} (hb : w.heap[b]? = some (.cells cs t fr)) (ht : t ≠ 58) {g off : Nat} (e : a = some ⟨g, off, none⟩) : g ≠ b := by
  intro c
  subst c
  obtain ⟨cs', fr', hk⟩ := h g off e
  rw [hb] at hk
  injection hk with hk
  injection hk with _ hk
  exact ht hk
theorem rs_kept {w w' : World} {a : Option Addr} {len cap : Nat} {l : List (Int × Int)} (h : Rs w a len cap l) (k : ∀ g off, a = some ⟨g, off, none⟩ → w'.heap[g]? = w.heap[g]?) : Rs w' a len cap l := by
  refine ⟨h.hlen, h.hcap, h.hmax, h.hfit, fun i hi => ?_⟩
  obtain ⟨g, off, ha, hc, hd⟩ := h.hcell i hi
  exact ⟨g, off, ha, by rw [World.cell?_of_block (k g off ha)]; exact hc, by rw [World.cell?_of_block (k g off ha)]; exact hd⟩
theorem ty_kept {w w' : World} {a : Option Addr} (h : Ty w a) (k : ∀ g off, a = some ⟨g, off, none⟩ → w'.heap[g]? = w.heap[g]?) : Ty w' a := by
  intro g off e
  obtain ⟨cs, fr, hk⟩ := h g off e
  exact ⟨cs, fr, (k g off e).trans hk⟩
theorem bu_ty {b : Nat} {w w' : World} (h : Bu b w w') {cs : Array Value} {t : TypeId} {fr : Nat × Nat} (hb : w.heap[b]? = some (.cells cs t fr)) (ht : t ≠ 58) {a : Option Addr} (hy : Ty w a) :
    ∀ g off, a = some ⟨g, off, none⟩ → w'.heap[g]? = w.heap[g]? := by
  intro g off e
  obtain ⟨cs', fr', hk⟩ := hy g off e
  rw [hk]
  exact h.at hk (ty_ne hy hb ht e)
theorem tokv_bu {b : Nat} {w w' : World} (h : Bu b w w') {cs : Array Value} {t : TypeId} {fr : Nat × Nat} (hb : w.heap[b]? = some (.cells cs t fr)) (ht : t ≠ 58) {v : Value} {k : Tk} {p : Int} (hv : TokV w v k p) : TokV w' v k p := by
  obtain ⟨a, c, e, hr, hy⟩ := hv
  have key := bu_ty h hb ht hy
  exact ⟨a, c, e, rs_kept hr key, ty_kept hy key⟩

/-! ### The reader -/
def Lf (w : World) (G : Nat) (v : Value) (r : List TN) : Prop :=
  ∃ off cap cur fr cs, v = .slice (some ⟨G, off, none⟩) r.length cap ∧ r.length ≤ cap ∧ cap ≤ maxLen ∧ w.heap[G]? = some (.cells cur 102 fr) ∧ (∀ (j : Nat) (u : Value), cs[j]? = some u → cur[off + j]? = some u) ∧ TkC w r cs
theorem Lf.bu {b G : Nat} {w w' : World} (h : Bu b w w') {cs : Array Value} {fr : Nat × Nat} (hb : w.heap[b]? = some (.cells cs 109 fr)) {v : Value} {r : List TN} (hl : Lf w G v r) : Lf w' G v r := by
  obtain ⟨off, cap, cur, f, cs', e, h1, h2, h3, h4, h5⟩ := hl
  have hne : G ≠ b := by
    intro c
    subst c
    rw [hb] at h3
    injection h3 with h3
    injection h3 with _ h3
    exact absurd h3 (by decide)
  exact ⟨off, cap, cur, f, cs', e, h1, h2, h.at h3 hne, h4, TkC.mono (fun v t p hv => tokv_bu h hb (by decide) hv) _ _ h5⟩
theorem Lf.later {G : Nat} {w w' : World} (h : Below w.heap.size w w') {v : Value} {r : List TN} (hl : Lf w G v r) : Lf w' G v r := by
  obtain ⟨off, cap, cur, f, cs', e, h1, h2, h3, h4, h5⟩ := hl
  exact ⟨off, cap, cur, f, cs', e, h1, h2, (h.block G (Array.getElem?_eq_some_iff.1 h3).1).trans h3, h4, TkC.later h5 h⟩
theorem Lf.head {w : World} {G : Nat} {v : Value} {r : List TN} (h : Lf w G v r) (hne : r ≠ []) :
    ∃ off cap a c, v = .slice (some ⟨G, off, none⟩) (r.tail.length + 1) cap ∧ r.tail.length + 1 ≤ cap ∧ cap ≤ maxLen ∧ G < w.heap.size ∧
      w.cell? ⟨G, off, none⟩ = some (.int .i64 (kd r)) ∧ w.cell? ⟨G, off + 1, none⟩ = some (.string (strOfNums (tx r))) ∧ w.cell? ⟨G, off + 2, none⟩ = some (.slice a (rg r).length c) ∧ w.cell? ⟨G, off + 3, none⟩ = some (.int .i64 (pl r : Nat)) ∧
      Rs w a (rg r).length c (rg r) ∧ Ty w a ∧ Lf w G (.slice (some ⟨G, off + 4, none⟩) r.tail.length (cap - 1)) r.tail := by
  obtain ⟨off, cap, cur, f, cs, e, h1, h2, h3, h4, h5⟩ := h
  cases r with
  | nil => exact absurd rfl hne
  | cons x r =>
    obtain ⟨t, p⟩ := x
    obtain ⟨c0, c1, c2, c3, cs', rfl, ⟨a, c, hv, hr, hy⟩, h6⟩ := h5
    simp only [Value.agg.injEq, Array.mk.injEq, List.cons.injEq, and_true] at hv
    obtain ⟨rfl, rfl, rfl, rfl⟩ := hv
    have hlt := (Array.getElem?_eq_some_iff.1 h3).1
    refine ⟨off, cap, a, c, e, h1, h2, hlt, ?_, ?_, ?_, ?_, hr, hy, off + 4, cap - 1, cur, f, cs', rfl, ?_, ?_, h3, ?_, h6⟩
    · have := h4 0 _ rfl
      rw [Nat.add_zero] at this
      simp [World.cell?, h3, this, kd, hd]
    · simp [World.cell?, h3, h4 1 _ rfl, tx, hd]
    · simp [World.cell?, h3, h4 2 _ rfl, rg, hd]
    · simp [World.cell?, h3, h4 3 _ rfl, pl, hd]
    · simp at h1 ⊢; omega
    · omega
    · intro j u hu
      rw [show off + 4 + j = off + (j + 4) by omega]
      exact h4 (j + 4) u (by simpa using hu)
def Rd (w : World) (b G : Nat) (r : List TN) (m : Nat) (d : Int) : Prop :=
  ∃ v, w.heap[b]? = some (.cells #[v, .map (some m), .int .i64 d] 109) ∧ Lf w G v r
theorem Rd.later {w w' : World} {b G : Nat} {r : List TN} {m : Nat} {d : Int} (h : Rd w b G r m d) (hb : Below w.heap.size w w') : Rd w' b G r m d := by
  obtain ⟨v, h1, h2⟩ := h
  exact ⟨v, (hb.block b (Array.getElem?_eq_some_iff.1 h1).1).trans h1, Lf.later hb h2⟩
theorem Rd.lt {w : World} {b G : Nat} {r : List TN} {m : Nat} {d : Int} (h : Rd w b G r m d) : b < w.heap.size := by
  obtain ⟨v, h1, h2⟩ := h
  exact (Array.getElem?_eq_some_iff.1 h1).1
theorem Rd.ltG {w : World} {b G : Nat} {r : List TN} {m : Nat} {d : Int} (h : Rd w b G r m d) : G < w.heap.size := by
  obtain ⟨v, -, off, cap, cur, f, cs', e, h1, h2, h3, h4, h5⟩ := h
  exact (Array.getElem?_eq_some_iff.1 h3).1
theorem Rd.kept {w X : World} {b G : Nat} {r : List TN} {m : Nat} {d : Int} (h : Rd w b G r m d) (hb : X.heap[b]? = w.heap[b]?) (hG : X.heap[G]? = w.heap[G]?) (k : ∀ (g : Nat) (cs : Array Value) (fr : Nat × Nat), w.heap[g]? = some (.cells cs 58 fr) → X.heap[g]? = some (.cells cs 58 fr)) : Rd X b G r m d := by
  obtain ⟨v, h0, off, cap, cur, f, cs', e, h1, h2, h3, h4, h5⟩ := h
  refine ⟨v, hb.trans h0, off, cap, cur, f, cs', e, h1, h2, hG.trans h3, h4, TkC.mono (fun v t p hv => ?_) _ _ h5⟩
  obtain ⟨a, c, e, hr, hy⟩ := hv
  have key : ∀ g off, a = some ⟨g, off, none⟩ → X.heap[g]? = w.heap[g]? := fun g off e => by
    obtain ⟨cs, fr, hk⟩ := hy g off e
    rw [hk]
    exact k g cs fr hk
  exact ⟨a, c, e, rs_kept hr key, ty_kept hy key⟩
theorem cells3 {W : World} {g : Nat} {x0 x1 x2 : Value} {t : TypeId} (h : W.heap[g]? = some (.cells #[x0, x1, x2] t)) :
    (W.cell? ⟨g, 0, none⟩ = some x0 ∧ W.cell? ⟨g, 1, none⟩ = some x1 ∧ W.cell? ⟨g, 2, none⟩ = some x2) ∧
    (W.frozen? ⟨g, 0, none⟩ = false ∧ W.frozen? ⟨g, 1, none⟩ = false ∧ W.frozen? ⟨g, 2, none⟩ = false) := by
  refine ⟨⟨?_, ?_, ?_⟩, ?_, ?_, ?_⟩ <;> simp [World.cell?, World.frozen?, h]
def TkR (w : World) (v : Value) (r : List TN) : Prop := ∃ a c, v = .agg #[.int .i64 (kd r), .string (strOfNums (tx r)), .slice a (rg r).length c, .int .i64 (pl r : Nat)] ∧ Rs w a (rg r).length c (rg r) ∧ Ty w a
theorem TkR.later {w w' : World} {v : Value} {r : List TN} (h : TkR w v r) (b : Below w.heap.size w w') : TkR w' v r := by
  obtain ⟨a, c, e, hr, hy⟩ := h
  exact ⟨a, c, e, hr.later b (Nat.le_refl _), hy.later b⟩
set_option maxRecDepth 20000 in
set_option maxHeartbeats 2000000 in
theorem next_l (w : World) (b G : Nat) (r : List TN) (m : Nat) (d : Int) (h : Rd w b G r m d) (hne : r ≠ []) :
    Calls Tryz.prog 91 #[.pointer (some ⟨b, 0, none⟩)] w fun e w' => ∃ v, e = .returned v ∧ TkR w' v r ∧ Below w.heap.size w w' := by
  obtain ⟨v, h1, h2⟩ := h
  obtain ⟨off, cap, a, c, rfl, l1, l2, lt, c0, c1, c2, c3, hr, hy, -⟩ := h2.head hne
  have hbl := (Array.getElem?_eq_some_iff.1 h1).1
  have HB : ∀ o, Below w.heap.size w (w.alloc o) := fun o => Below.new1 o
  have k0 : ∀ o, (w.alloc o).cell? ⟨G, off, none⟩ = some (.int .i64 (kd r)) := fun o => ((HB o).cell (block_lt' c0)).trans c0
  have k1 : ∀ o, (w.alloc o).cell? ⟨G, off + 1, none⟩ = some (.string (strOfNums (tx r))) := fun o => ((HB o).cell (block_lt' c1)).trans c1
  have k2 : ∀ o, (w.alloc o).cell? ⟨G, off + 2, none⟩ = some (.slice a (rg r).length c) := fun o => ((HB o).cell (block_lt' c2)).trans c2
  have k3 : ∀ o, (w.alloc o).cell? ⟨G, off + 3, none⟩ = some (.int .i64 (pl r : Nat)) := fun o => ((HB o).cell (block_lt' c3)).trans c3
  have q0 : ∀ o, (w.alloc o).cell? ⟨b, 0, none⟩ = some (.slice (some ⟨G, off, none⟩) (r.tail.length + 1) cap) := fun o => ((HB o).cell hbl).trans (cells3 h1).1.1
  have HR := hideR hr
  have HY := hideR hy
  clear h1 h2 c0 c1 c2 c3 hr hy HB
  unfold maxLen at l2
  generalize hS : strOfNums (tx r) = S at *
  have HS := hideR hS
  clear hS
  generalize hn : (rg r).length = n at *
  have HN := hideR hn
  clear hn
  go_enter Tryz.func91, Tryz.ntmps91
  go_wp2_with fail
  (try simp only [Exit.inBlock, Exit.then])
  refine bodyPost_ret (v := .agg #[.int .i64 (kd r), .string S, .slice a n c, .int .i64 (pl r : Nat)]) ?_ rfl ⟨_, rfl, ?_, ?_⟩
  · simp [results, Tryz.results91, go_sem]
  · exact ⟨a, c, by rw [unhideR HS, unhideR HN], by rw [unhideR HN]; exact (unhideR HR).later (Below.new1 _) (Nat.le_refl _), (unhideR HY).later (Below.new1 _)⟩
  · exact Below.new1 _
end Go.Proofs.YtfcfcgeodghmpaaGreatDoor.R

namespace Go.Proofs.YtfcfcgeodghmpaaGreatDoor.T
open Go.RowKit
set_option linter.unusedVariables false
set_option linter.unusedSimpArgs false

def Db (w : World) : Prop := w.cell? ⟨7, 15, none⟩ = some (.int .u8 4)
theorem Db.later {w w' : World} (h : Db w) (b : Below w.heap.size w w') : Db w' := by
  unfold Db at *
  rw [b.cell (block_lt' h)]
  exact h
/-! ### formatBits -/
def Tl (w : World) (g : Nat) (m : Nat) (acc : List Int) : Prop := ∃ cs : Array Value, w.heap[g]? = some (.cells cs 263) ∧ cs.size = 65 ∧ m + acc.length = 65 ∧ cs.toList.drop m = acc.map (Value.int .u8)
theorem Tl.cell {w : World} {g m : Nat} {acc : List Int} (h : Tl w g (m + 1) acc) : ∃ v, w.cell? ⟨g, m, none⟩ = some v := by
  obtain ⟨cs, h1, h2, h3, h4⟩ := h
  refine ⟨cs[m]'(by omega), ?_⟩
  simp [World.cell?, h1]
theorem Tl.put {w : World} {g m : Nat} {acc : List Int} (h : Tl w g (m + 1) acc) (x : Int) : Tl (w.setCell ⟨g, m, none⟩ (.int .u8 x)) g m (x :: acc) := by
  obtain ⟨cs, h1, h2, h3, h4⟩ := h
  refine ⟨cs.setIfInBounds m (.int .u8 x), heap_setCell_same w g m cs _ _ h1, by simp [h2], by rw [List.length_cons]; omega, ?_⟩
  have hm : m < (cs.toList.set m (Value.int .u8 x)).length := by simp; omega
  rw [Array.toList_setIfInBounds, List.drop_eq_getElem_cons hm, List.getElem_set_self, List.map_cons, List.drop_set, if_pos (by omega), h4]
theorem Tl.bs {w : World} {g m : Nat} {acc : List Int} (h : Tl w g m acc) (hb : U.isBytes acc) : Bs w (some ⟨g, m, none⟩) (65 - m) (65 - m) acc := by
  obtain ⟨cs, h1, h2, h3, h4⟩ := h
  refine ⟨by omega, Nat.le_refl _, by unfold maxLen; omega, hb, fun i hi => ⟨_, _, rfl, ?_⟩⟩
  have hi' : i < acc.length := by omega
  have e := congrArg (fun l => l[i]?) h4
  simp only [List.getElem?_drop, List.getElem?_map] at e
  rw [List.getElem?_eq_getElem hi'] at e
  simp only [Option.map_some, Array.getElem?_toList] at e
  simp only [World.cell?, h1, List.getD, List.getElem?_eq_getElem hi', Option.getD_some]
  exact e
theorem Tl.new (w : World) : Tl (w.alloc (.cells Tryz.zeroCells263 263)) w.heap.size 65 [] :=
  ⟨Tryz.zeroCells263, heap_alloc_new w _, by kernel_rfl, rfl, by kernel_rfl⟩
/-! ### FormatInt -/
end Go.Proofs.YtfcfcgeodghmpaaGreatDoor.T

namespace Go.Proofs.YtfcfcgeodghmpaaGreatDoor.T
set_option linter.unusedSimpArgs false
set_option linter.unusedVariables false

theorem allF_err : ∀ (f a c : Nat) (r : List Int) (e : Nat × Int), allF f a c r = .inl e → e.2 = 2 ∨ e.2 = 7 := by
  intro f
  induction f with
  | zero => intro a c r e h; cases h
  | succ f ih =>
    intro a c r e h
    unfold allF at h
    split at h
    · cases h
    · split at h
      · exact ih _ _ _ _ h
      · split at h
        · injection h with h; subst h; exact .inl rfl
        · split at h
          · injection h with h; subst h; exact .inr rfl
          · split at h
            · next e' he => injection h with h; subst h; exact ih _ _ _ _ he
            · cases h
theorem allL_err {s : List Int} {p : Nat} {er : Int} (h : allL s = .inl (p, er)) : er = 2 ∨ er = 7 := by
  unfold allL at h
  split at h
  · injection h with h; injection h with h1 h2; exact .inr h2.symm
  · exact allF_err _ _ _ _ _ h
theorem allF_at : ∀ (f a c : Nat) (r : List Int) (l : List (Tk × Nat)), U.isBytes r → allF f a c r = .inr l → ∀ p ∈ l, p.2 ≤ a + r.length := by
  intro f
  induction f with
  | zero => intro a c r l _ h p hp; injection h with h; subst h; cases hp
  | succ f ih =>
    intro a c r l hb h p hp
    unfold allF at h
    split at h
    · injection h with h; subst h; cases hp
    · next hr =>
      have hl : 0 < r.length := by cases r <;> simp_all
      split at h
      · have := ih _ _ _ _ (fun z hz => hb z (List.mem_of_mem_drop hz)) h p hp
        rw [List.length_drop] at this
        omega
      · split at h
        · cases h
        · next t n ht =>
          have hn := (tok_ok hb ht).2.2
          split at h
          · cases h
          · split at h
            · cases h
            · next l' he =>
              injection h with h; subst h
              rcases List.mem_cons.1 hp with rfl | hp
              · simp
              · have := ih _ _ _ _ (fun z hz => hb z (List.mem_of_mem_drop hz)) he p hp
                rw [List.length_drop] at this
                omega
theorem allL_at {s : List Int} (hb : U.isBytes s) {l : List (Tk × Nat)} (h : allL s = .inr l) : ∀ p ∈ l, p.2 ≤ s.length := by
  unfold allL at h
  split at h
  · cases h
  · intro p hp
    have := allF_at _ _ _ _ _ hb h p hp
    simpa using this
end Go.Proofs.YtfcfcgeodghmpaaGreatDoor.T

namespace Go.Proofs.YtfcfcgeodghmpaaGreatDoor.T
open Go.RowKit
set_option linter.unusedVariables false
set_option linter.unusedSimpArgs false

theorem tks_form {w : World} {base : Nat} {v : Value} {ts : List (Tk × Nat)} (h : Tks w base v ts) : ∃ p c, v = .slice p ts.length c := by
  obtain ⟨cs, ho, -⟩ := h
  obtain ⟨p, c, e⟩ := own_form ho
  exact ⟨p, c, e⟩
end Go.Proofs.YtfcfcgeodghmpaaGreatDoor.T

namespace Go.Proofs.YtfcfcgeodghmpaaGreatDoor.T
open Go.RowKit
set_option linter.unusedVariables false
set_option linter.unusedSimpArgs false

theorem keep_c {W V X : World} (b : Below W.heap.size W X) (e : V.heap = W.heap) {g o : Nat} {v : Value} (h : V.cell? ⟨g, o, none⟩ = some v) : X.cell? ⟨g, o, none⟩ = some v := by
  have h' : W.cell? ⟨g, o, none⟩ = some v := by
    unfold World.cell? at *
    rw [← e]
    exact h
  exact (b.cell (block_lt' h')).trans h'
set_option maxRecDepth 20000 in
set_option maxHeartbeats 2000000 in
theorem all_huge (s : ByteArray) (l : List Int) (h : St s l) (hbig : 3000 < l.length) (w : World) :
    Calls Tryz.prog 24 #[.string s] w fun e w' => AllR w' w.heap.size l e ∧ Below w.heap.size w w' := by
  have hsz := h.size
  have e : allL l = .inl (0, 7) := by unfold allL; rw [if_pos hbig]
  have t1 : (3000 : Int) < (s.size : Int) := by omega
  have EQ := hideR e
  clear h hsz e
  go_enter Tryz.func24, Tryz.ntmps24
  go_wp2_with fail
  (try simp only [Exit.inBlock, Exit.then])
  refine bodyPost_ret (v := .tuple #[.slice none 0 0, .int .i64 (0 : Nat), .int .i64 7]) ?_ rfl ⟨.inl ⟨0, 7, unhideR EQ, rfl⟩, Below.refl _ _⟩
  simp [results, Tryz.results24]
theorem all_any (s : ByteArray) (l : List Int) (h : St s l) (w : World) :
    Calls Tryz.prog 24 #[.string s] w fun e w' => AllR w' w.heap.size l e ∧ Below w.heap.size w w' := by
  by_cases hl : l.length ≤ 1000000
  · exact all_l s l h hl w
  · exact all_huge s l h (by omega) w
end Go.Proofs.YtfcfcgeodghmpaaGreatDoor.T

namespace Go.Proofs.YtfcfcgeodghmpaaGreatDoor
open Go.RowKit
set_option linter.unusedVariables false

structure OI (p : Int → Bool) (n : Int) (out : List (Int × Int)) : Prop where
  may : G.mayB out = true
  has : ∀ m, G.hasB out m = (decide (0 ≤ m) && decide (m < n) && p m)
  last : ∀ o x y, out = o ++ [(x, y)] → y ≤ n - 1

theorem OI.wide {p : Int → Bool} {n next z : Int} {o : List (Int × Int)} {x y : Int} (hz : z = next - 1) (h : OI p n (o ++ [(x, y)])) (hy : y = n - 1) (h0 : 0 ≤ n) (hn : n < next) (h1 : next ≤ 1114112) (hf : ∀ m, n ≤ m → m < next → p m = p n) (hp : p n = true) : OI p next (o ++ [(x, z)]) := by
  subst hy
  subst hz
  have hm := h.may
  rw [G.may_snoc] at hm
  simp only at hm
  refine ⟨by rw [G.may_snoc]; simp only; exact ⟨hm.1, hm.2.1, by omega, by omega⟩, fun m => ?_, fun o' x' y' e => ?_⟩
  · have k := h.has m
    rw [G.hasB_append, G.hasB_one] at k
    rw [G.hasB_append, G.hasB_one]
    by_cases c1 : m < n
    · have : decide (m ≤ next - 1) = decide (m ≤ n - 1) := by rw [decide_eq_true (show m ≤ next - 1 by omega), decide_eq_true (show m ≤ n - 1 by omega)]
      rw [this, k, decide_eq_true c1, decide_eq_true (show m < next by omega)]
    · have ko : G.hasB o m = false := by
        rw [decide_eq_false c1] at k
        simp at k
        exact k.1
      rw [ko, Bool.false_or]
      by_cases c2 : m < next
      · rw [hf m (by omega) c2, hp, decide_eq_true (show x ≤ m by omega), decide_eq_true (show m ≤ next - 1 by omega), decide_eq_true (show 0 ≤ m by omega), decide_eq_true c2]; rfl
      · rw [decide_eq_false (show ¬ m ≤ next - 1 by omega), decide_eq_false c2]; simp
  · have e' := List.append_inj_right' e (by simp)
    simp at e'; omega

theorem OI.app {p : Int → Bool} {n next z : Int} {out : List (Int × Int)} (hz : z = next - 1) (h : OI p n out) (hl : ∀ o x y, out = o ++ [(x, y)] → y ≠ n - 1) (h0 : 0 ≤ n) (hn : n < next) (h1 : next ≤ 1114112) (hf : ∀ m, n ≤ m → m < next → p m = p n) (hp : p n = true) : OI p next (out ++ [(n, z)]) := by
  subst hz
  have he : G.endOf 0 out ≤ n := by
    rcases List.eq_nil_or_concat out with e | ⟨o, ⟨x, y⟩, e⟩
    · rw [e]; exact h0
    · rw [List.concat_eq_append] at e
      have a := hl o x y e
      have b := h.last o x y e
      rw [e, G.endOf_append]; simp only; omega
  refine ⟨by rw [G.may_snoc]; exact ⟨h.may, he, by simp only; omega, by simp only; omega⟩, fun m => ?_, fun o' x' y' e => ?_⟩
  · rw [G.hasB_append, G.hasB_one, h.has]
    by_cases c1 : m < n
    · rw [decide_eq_true c1, decide_eq_false (show ¬ n ≤ m by omega), decide_eq_true (show m < next by omega)]; simp
    · rw [decide_eq_false c1]
      by_cases c2 : m < next
      · rw [hf m (by omega) c2, hp, decide_eq_true (show n ≤ m by omega), decide_eq_true (show m ≤ next - 1 by omega), decide_eq_true (show 0 ≤ m by omega), decide_eq_true c2]; rfl
      · rw [decide_eq_false (show ¬ m ≤ next - 1 by omega), decide_eq_false c2]; simp
  · have e' := List.append_inj_right' e (by simp)
    simp at e'; omega

theorem OI.done {p : Int → Bool} {n : Int} {out : List (Int × Int)} (h : OI p n out) (hn : n = 1114112) : G.Is out (fun m => G.dom m && p m) := by
  subst hn
  refine ⟨h.may, fun m => ?_⟩
  rw [h.has]
  unfold G.dom
  congr 2
  rw [Bool.eq_iff_iff]; simp only [decide_eq_true_eq]; omega

end Go.Proofs.YtfcfcgeodghmpaaGreatDoor

namespace Go.Proofs.YtfcfcgeodghmpaaGreatDoor.T
open Go.RowKit
set_option linter.unusedVariables false
set_option linter.unusedSimpArgs false

theorem two_new {w w1 : World} {o1 o2 : Obj} (b : Below ((w.alloc o1).alloc o2).heap.size ((w.alloc o1).alloc o2) w1) : w1.heap[w.heap.size]? = some o1 ∧ w1.heap[w.heap.size + 1]? = some o2 :=
  ⟨kept_new (bthen (Below.new1 _) b), by have := kept_new b; simpa using this⟩
theorem b2_of {w w1 : World} {o1 o2 : Obj} (b : Below ((w.alloc o1).alloc o2).heap.size ((w.alloc o1).alloc o2) w1) : Below w.heap.size w w1 := bthen (bthen (Below.new1 _) (Below.new1 _)) b
end Go.Proofs.YtfcfcgeodghmpaaGreatDoor.T

namespace Go.Proofs.YtfcfcgeodghmpaaGreatDoor.R
open Go.RowKit Go.Proofs.YtfcfcgeodghmpaaGreatDoor.T
set_option linter.unusedVariables false
set_option linter.unusedSimpArgs false

def lk (r : List TN) : Int × List Int := (kd r, if kd r = 4 then tx r else [])
def lookV (k : Int) (x : List Int) : Value := .agg #[.int .i64 k, .string (strOfNums x)]
theorem lk_sign (r : List TN) (c : Int) : decide (lk r = (4, [c])) = isS r c := by
  unfold lk isS
  by_cases h : kd r = 4
  · simp [h]
  · simp [h]
theorem lk_kind (r : List TN) (k : Int) (h : k ≠ 4) : decide (lk r = (k, [])) = decide (kd r = k) := by
  unfold lk
  by_cases e : kd r = k
  · rw [e]; simp [h]
  · simp [e]
theorem cells2f {W : World} {g : Nat} {x0 x1 : Value} {t : TypeId} (h : W.heap[g]? = some (.cells #[x0, x1] t)) :
    (W.cell? ⟨g, 0, none⟩ = some x0 ∧ W.cell? ⟨g, 1, none⟩ = some x1) ∧ (W.frozen? ⟨g, 0, none⟩ = false ∧ W.frozen? ⟨g, 1, none⟩ = false) := by
  refine ⟨⟨?_, ?_⟩, ?_, ?_⟩ <;> simp [World.cell?, World.frozen?, h]
theorem set2 {B : Nat} {a w : World} (h : Below B a w) {g : Nat} (hg : B ≤ g) (x0 x1 : Value) : Below B a ((w.setCell ⟨g, 0, none⟩ x0).setCell ⟨g, 1, none⟩ x1) :=
  Below.setCell (Below.setCell h (show B ≤ (⟨g, 0, none⟩ : Addr).block from hg) _) (show B ≤ (⟨g, 1, none⟩ : Addr).block from hg) _
set_option maxRecDepth 20000 in
theorem sign_l (S : ByteArray) (w : World) :
    Calls Tryz.prog 86 #[.string S] w fun e w' => e = .returned (.agg #[.int .i64 4, .string S]) ∧ Below w.heap.size w w' := by
  go_enter Tryz.func86, Tryz.ntmps86
  go_wp2_with fail
  (try simp only [Exit.inBlock, Exit.then])
  refine bodyPost_ret (v := .agg #[.int .i64 4, .string S]) ?_ rfl ⟨rfl, ?_⟩
  · simp [results, Tryz.results86, go_sem]
  · exact Below.new1 _
set_option maxRecDepth 20000 in
theorem lookOf_l (k : Int) (S : ByteArray) (a : Option Addr) (n c : Nat) (q : Int) (w : World) :
    Calls Tryz.prog 90 #[.agg #[.int .i64 k, .string S, .slice a n c, .int .i64 q]] w fun e w' => e = .returned (.agg #[.int .i64 k, .string (if k = 4 then S else ⟨#[]⟩)]) ∧ Below w.heap.size w w' := by
  by_cases hk : k = 4
  · subst hk
    rw [if_pos rfl]
    have C := hideR (fun W => sign_l S W)
    go_enter Tryz.func90, Tryz.ntmps90
    go_wp2_with fail
    refine (unhideR C _).mono ?_
    rintro e w1 ⟨rfl, b1⟩
    clear C
    obtain ⟨g1, g2⟩ := two_new b1
    obtain ⟨⟨y0, y1⟩, z0, z1⟩ := cells2f g2
    go_wp2_with fail
    (try simp only [Exit.inBlock, Exit.then])
    refine bodyPost_ret (v := .agg #[.int .i64 4, .string S]) ?_ rfl ⟨rfl, ?_⟩
    · simp [results, Tryz.results90, go_sem, y0, y1]
    · exact set2 (b2_of b1) (by simp) _ _
  · rw [if_neg hk]
    have n4 : (k == 4) = false := beq_eq_false_iff_ne.2 hk
    go_enter Tryz.func90, Tryz.ntmps90
    go_wp2_with fail
    (try simp only [Exit.inBlock, Exit.then])
    refine bodyPost_ret (v := .agg #[.int .i64 k, .string ⟨#[]⟩]) ?_ rfl ⟨rfl, ?_⟩
    · simp [results, Tryz.results90, go_sem]
    · exact (Below.new1 _).alloc (by simp) _
theorem eqlLk (k k2 : Int) (S S2 : ByteArray) (w : World) : (binOp .eql 113 (.agg #[.int .i64 k, .string S]) (.agg #[.int .i64 k2, .string S2])).run Tryz.prog w = .ok (.bool (k == k2 && S.toList == S2.toList)) w := by
  have u3 := Tryz.underlying3
  have a3 := Tryz.isAgg3
  have z3 := Tryz.sizeOf3
  have u9 := Tryz.underlying9
  have a9 := Tryz.isAgg9
  have z9 := Tryz.sizeOf9
  have hS : Tryz.prog.underlying 113 = some (.struct (Tryz.prog.fieldsOf 113)) := by kernel_rfl
  have hp : Tryz.prog.stoodInHeld 113 = false := by kernel_rfl
  rw [run_eql_struct, show (10000 : Nat) = 9999 + 1 from rfl, run_equalIn_agg w 9999 113 _ _ hS hp]
  simp only [Program.fieldsOf, Tryz.underlying113]
  go_simp
  by_cases h1 : k = k2
  · by_cases h2 : S.toList = S2.toList <;> simp [h1, h2]
  · simp [h1]
theorem look_eq {k k2 : Int} {x y : List Int} (hx : U.isBytes x) (hy : U.isBytes y) : (k == k2 && (strOfNums x).toList == (strOfNums y).toList) = decide ((k, x) = (k2, y)) := by
  rw [str_eq_list (St.of hx) (St.of hy)]
  by_cases h1 : k = k2 <;> by_cases h2 : x = y <;> simp [h1, h2]
theorem lk_str (r : List TN) : (if kd r = 4 then strOfNums (tx r) else (⟨#[]⟩ : ByteArray)) = strOfNums (lk r).2 := by
  unfold lk
  by_cases h : kd r = 4
  · simp [h]
  · rw [if_neg h]; simp only [h, if_false]; rfl
theorem Ends.bytes {r : List TN} (h : Ends r) : U.isBytes (tx r) := by
  obtain ⟨i, n, rfl, hn, h⟩ := h
  cases i with
  | nil => intro z hz; cases hz
  | cons x i => exact (ok_parts (h x (List.mem_cons_self ..)).1).2
theorem Ends.lk {r : List TN} (h : Ends r) : U.isBytes (lk r).2 := by
  unfold R.lk
  by_cases e : kd r = 4
  · simp only [e, if_true]; exact h.bytes
  · simp only [e, if_false]; intro z hz; cases hz
theorem sees_eq {r : List TN} (h : Ends r) (k : Int) {x : List Int} (hx : U.isBytes x) : (kd r == k && (strOfNums (R.lk r).2).toList == (strOfNums x).toList) = decide (R.lk r = (k, x)) := by
  have := look_eq (k := kd r) (k2 := k) h.lk hx
  exact this
set_option maxRecDepth 20000 in
set_option maxHeartbeats 2000000 in
theorem sees_l (w : World) (b G : Nat) (r : List TN) (m : Nat) (d : Int) (h : Rd w b G r m d) (hr : Ends r) (k : Int) (x : List Int) (hx : U.isBytes x) :
    Calls Tryz.prog 45 #[.pointer (some ⟨b, 0, none⟩), .agg #[.int .i64 k, .string (strOfNums x)]] w fun e w' => e = .returned (.bool (decide (R.lk r = (k, x)))) ∧ Below w.heap.size w w' := by
  have hne := hr.ne
  have CN := hideR (fun W (bW : Below w.heap.size w W) => next_l W b G r m d (h.later bW) hne)
  have CL := hideR (fun a n c W => lookOf_l (kd r) (strOfNums (tx r)) a n c (pl r : Nat) W)
  rw [lk_str] at CL
  have EQ := fun W => eqlLk (kd r) k (strOfNums (R.lk r).2) (strOfNums x) W
  rw [sees_eq hr k hx] at EQ
  generalize decide (R.lk r = (k, x)) = D at *
  generalize strOfNums x = S at *
  generalize strOfNums (R.lk r).2 = S2 at *
  have HB := Below.new1 (w := w) (.cells #[.int .i64 k, .string S] 113)
  obtain ⟨⟨y0, y1⟩, -⟩ := cells2f (heap_alloc_new w (.cells #[.int .i64 k, .string S] 113))
  clear h hr hx hne
  go_enter Tryz.func45, Tryz.ntmps45
  go_wp2_with fail
  refine wp_region_held_drew (S := (fun w' => w'.cell? ⟨w.heap.size, 0, none⟩ = some (.int .i64 k) ∧ w'.cell? ⟨w.heap.size, 1, none⟩ = some (.string S))) (by kernel_rfl) (⟨y0, y1⟩) (fun hHeld => ?_)
  refine wpAnyH_take (i := 0) (v := ?_) rfl (by kernel_rfl) (by kernel_rfl) (by kernel_rfl) (fun _ _ _ h => h) (Or.inl ⟨by kernel_rfl, ?_⟩) (by assumption) ?_
  rotate_left
  · intro w hSw; (try dsimp only at hSw); go_simp; (try with_reducible rfl)
  try simp only [Act.put, List.getElem_toArray, List.getElem_cons_succ, List.getElem_cons_zero, List.setIfInBounds_toArray, List.set_cons_zero, List.set_cons_succ]
  refine wpAnyH_take (i := 3) (v := ?_) rfl (by kernel_rfl) (by kernel_rfl) (by kernel_rfl) (fun _ _ _ h => h) (Or.inl ⟨by kernel_rfl, ?_⟩) (by assumption) ?_
  rotate_left
  · intro w hSw; (try dsimp only at hSw); go_simp; (try with_reducible rfl)
  try simp only [Act.put, List.getElem_toArray, List.getElem_cons_succ, List.getElem_cons_zero, List.setIfInBounds_toArray, List.set_cons_zero, List.set_cons_succ]
  refine wpAnyH_ready (rs := [1]) (by kernel_rfl) (by simp) ?_
  refine AllReadyH.cons rfl (fun K hK => ?_) AllReadyH.nil
  go_simp
  refine (unhideR CN _ (HB.trans draws_b)).mono ?_; rintro e w1 ⟨v, rfl, tv, b1⟩; obtain ⟨a, c, rfl, -, -⟩ := tv
  go_wp2_with fail
  refine hK.out _ _ (by obtain ⟨h0, h1⟩ := hHeld; exact ⟨keep_c b1 rfl h0, keep_c b1 rfl h1⟩) (fun hHeld => ?_)
  clear hK K
  try simp only [Act.put, List.getElem_toArray, List.getElem_cons_succ, List.getElem_cons_zero, List.setIfInBounds_toArray, List.set_cons_zero, List.set_cons_succ]
  refine wpAnyH_ready (rs := [2]) (by kernel_rfl) (by simp) ?_
  refine AllReadyH.cons rfl (fun K hK => ?_) AllReadyH.nil
  go_simp
  refine (unhideR CL _ _ _ _).mono ?_; rintro e w2 ⟨rfl, b2⟩
  go_wp2_with fail
  refine hK.out _ _ (by obtain ⟨h0, h1⟩ := hHeld; exact ⟨keep_c b2 rfl h0, keep_c b2 rfl h1⟩) (fun hHeld => ?_)
  clear hK K
  try simp only [Act.put, List.getElem_toArray, List.getElem_cons_succ, List.getElem_cons_zero, List.setIfInBounds_toArray, List.set_cons_zero, List.set_cons_succ]
  refine wpAnyH_take (i := 4) (v := ?_) rfl (by kernel_rfl) (by kernel_rfl) (by kernel_rfl) (fun _ _ _ h => h) (Or.inl ⟨by kernel_rfl, ?_⟩) (by assumption) ?_
  rotate_left
  · intro w hSw; (try dsimp only at hSw); go_simp; (try with_reducible rfl)
  try simp only [Act.put, List.getElem_toArray, List.getElem_cons_succ, List.getElem_cons_zero, List.setIfInBounds_toArray, List.set_cons_zero, List.set_cons_succ]
  refine wpAnyH_take (i := 5) (v := ?_) rfl (by kernel_rfl) (by kernel_rfl) (by kernel_rfl) (fun _ _ _ h => h) (Or.inl ⟨by kernel_rfl, ?_⟩) (by assumption) ?_
  rotate_left
  · intro w hSw; (try dsimp only at hSw); go_simp; (try with_reducible rfl)
  try simp only [Act.put, List.getElem_toArray, List.getElem_cons_succ, List.getElem_cons_zero, List.setIfInBounds_toArray, List.set_cons_zero, List.set_cons_succ]
  refine wpAnyH_done (by kernel_rfl) ?_ _
  clear CN CL EQ
  go_wp2_with fail
  go_ret
  exact ⟨rfl, bthen (HB.trans draws_b) (bthen b1 b2)⟩
end Go.Proofs.YtfcfcgeodghmpaaGreatDoor.R

