/- Contracts of package token: the ways to read, by the byte that a token begins by. -/
import Derived.Test.YtdaadeohamkoiaaGreatDoorTkL
import Derived.Lib.OthersKept
import Derived.Carry
namespace Go.Proofs.YtdaadeohamkoiaaGreatDoor.T
open Go.RowKit
set_option linter.unusedVariables false
set_option linter.unusedSimpArgs false

/-- a map of functions by bytes -/
def Mp (w : World) (b : Nat) (f : Int → Option Nat) : Prop :=
  ∃ es clock, w.heap[b]? = some (.map es clock) ∧ ∀ c : Int, (f c = none ∧ Instr.findNow (.int .u8) (.int .u8 c) es.toList 0 = some none) ∨ ∃ g i, f c = some g ∧ Instr.findNow (.int .u8) (.int .u8 c) es.toList 0 = some (some (i, .func (.func g) #[] #[]))
theorem find_app (kind : TypeDesc) (k : Value) : ∀ (es : List MapEntry) (e : MapEntry) (n : Nat), Instr.findNow kind k (es ++ [e]) n = match Instr.findNow kind k es n with
    | some none => Instr.findNow kind k [e] (n + es.length)
    | r => r := by
  intro es
  induction es with
  | nil => intro e n; simp [Instr.findNow]
  | cons x t ih =>
    intro e n
    rw [List.cons_append]
    unfold Instr.findNow
    cases h : Instr.sameNow kind k x.key with
    | none => rfl
    | some b =>
      cases b with
      | true => rfl
      | false =>
        simp only
        rw [ih]
        cases h2 : Instr.findNow kind k t (n + 1) with
        | none => rfl
        | some r =>
          cases r with
          | none =>
            simp only [List.length_cons]
            rw [show n + 1 + t.length = n + (t.length + 1) by omega]
            unfold Instr.findNow
            rfl
          | some q => rfl
theorem Mp.new (w : World) : Mp (w.alloc (.map #[] 0)) w.heap.size (fun _ => none) := ⟨#[], 0, heap_alloc_new w _, fun c => .inl ⟨rfl, rfl⟩⟩
def upd (f : Int → Option Nat) (c : Int) (g : Nat) : Int → Option Nat := fun x => if x = c then some g else f x
theorem Mp.keep {w w' : World} {b : Nat} {f : Int → Option Nat} (h : Mp w b f) (e : w'.heap[b]? = w.heap[b]?) : Mp w' b f := by
  obtain ⟨es, clock, hb, hf⟩ := h
  exact ⟨es, clock, e.trans hb, hf⟩
theorem Mp.later {w w' : World} {b : Nat} {f : Int → Option Nat} (h : Mp w b f) (hb : Below w.heap.size w w') : Mp w' b f := by
  obtain ⟨es, clock, h1, hf⟩ := h
  exact ⟨es, clock, (hb.block b (Array.getElem?_eq_some_iff.1 h1).1).trans h1, hf⟩
theorem Mp.lt {w : World} {b : Nat} {f : Int → Option Nat} (h : Mp w b f) : b < w.heap.size := by
  obtain ⟨es, clock, h1, hf⟩ := h
  exact (Array.getElem?_eq_some_iff.1 h1).1
theorem ck_byte (e : Bool) (c : Int) (W : World) : (Instr.checkKey e 10000 5 (.int .u8 c)).run Tryz.prog W = .ok () W := by
  show (Instr.checkKey e (9999 + 1) 5 (.int .u8 c)).run Tryz.prog W = .ok () W
  rw [Instr.checkKey]
  simp [run_underlying Tryz.underlying5]
theorem Mp.put {w : World} {b : Nat} {f : Int → Option Nat} (h : Mp w b f) (c : Int) (g : Nat) (hc : f c = none) :
    ∃ w', (Instr.mapUpdate 56 (.map (some b)) (.int .u8 c) (.func (.func g) #[] #[])).run Tryz.prog w = .ok () w' ∧ Mp w' b (upd f c g) ∧ w'.heap.size = w.heap.size ∧ (∀ k, k ≠ b → w'.heap[k]? = w.heap[k]?) ∧ w'.os = w.os ∧ w'.tape = w.tape ∧ w'.output = w.output := by
  obtain ⟨es, clock, hb, hf⟩ := h
  have hlt := (Array.getElem?_eq_some_iff.1 hb).1
  have hnow : Instr.findNow (.int .u8) (.int .u8 c) es.toList 0 = some none := by
    rcases hf c with ⟨_, h⟩ | ⟨g', i, h, _⟩
    · exact h
    · rw [hc] at h; cases h
  refine ⟨{ w with heap := w.heap.setIfInBounds b (.map (es.push { key := .int .u8 c, val := .func (.func g) #[] #[], born := clock }) (clock + 1)) }, ?_, ?_, by simp, fun k hk => by simp [Array.getElem?_setIfInBounds, Ne.symm hk], rfl, rfl, rfl⟩
  · simp [Instr.mapUpdate, run_underlying Tryz.underlying56, getObj, setObj, hb, ck_byte, run_underlying Tryz.underlying5, Instr.findKey, hnow, Sem.run]
  · refine ⟨es.push { key := .int .u8 c, val := .func (.func g) #[] #[], born := clock }, clock + 1, by simp [Array.getElem?_setIfInBounds, hlt], fun x => ?_⟩
    rw [Array.toList_push, find_app]
    unfold upd
    by_cases e : x = c
    · subst e
      rw [hnow, if_pos rfl]
      exact .inr ⟨g, _, rfl, by simp [Instr.findNow, Instr.sameNow]; rfl⟩
    · rw [if_neg e]
      rcases hf x with ⟨h1, h2⟩ | ⟨g', i, h1, h2⟩
      · refine .inl ⟨h1, ?_⟩
        rw [h2]
        have : (x == c) = false := beq_eq_false_iff_ne.2 e
        simp [Instr.findNow, Instr.sameNow, this]
      · exact .inr ⟨g', i, h1, by rw [h2]⟩
theorem Mp.get {w : World} {b : Nat} {f : Int → Option Nat} (h : Mp w b f) (c : Int) :
    (Instr.lookup 56 (.map (some b)) (.int .u8 c) true).run Tryz.prog w = .ok (.tuple #[match f c with | none => .nilFunc | some g => .func (.func g) #[] #[], .bool (f c).isSome]) w := by
  obtain ⟨es, clock, hb, hf⟩ := h
  have hz : (zeroValue 86).run Tryz.prog w = .ok .nilFunc w := by kernel_rfl
  rcases hf c with ⟨h1, h2⟩ | ⟨g, i, h1, h2⟩
  · simp [Instr.lookup, run_underlying Tryz.underlying56, getObj, hb, ck_byte, run_underlying Tryz.underlying5, Instr.findKey, h2, h1, hz, Sem.run]
  · simp [Instr.lookup, run_underlying Tryz.underlying56, getObj, hb, ck_byte, run_underlying Tryz.underlying5, Instr.findKey, h2, h1, Sem.run]
end Go.Proofs.YtdaadeohamkoiaaGreatDoor.T

/- Contracts of package token: readers, and the token that a tail begins by. -/
namespace Go.Proofs.YtdaadeohamkoiaaGreatDoor.T
open Go.RowKit
set_option linter.unusedVariables false
set_option linter.unusedSimpArgs false

def f4 : Int → Option Nat := upd (upd (upd (upd (fun _ => none) 64 44) 34 45) 91 46) 60 47
def fL (k : Nat) : Int → Option Nat := fun c => if 97 ≤ c ∧ c < 97 + (k : Int) then some 48 else f4 c
def fS (p : Nat) : Int → Option Nat := fun c => if c ∈ signs.take p then some 49 else fL 26 c
theorem fL_zero : fL 0 = f4 := by
  funext c
  unfold fL
  rw [if_neg (by omega)]
theorem fL_step (k : Nat) : upd (fL k) (97 + (k : Int)) 48 = fL (k + 1) := by
  funext c
  unfold upd fL
  by_cases h : c = 97 + (k : Int)
  · rw [if_pos h, if_pos (by omega)]
  · rw [if_neg h]
    by_cases h2 : 97 ≤ c ∧ c < 97 + (k : Int)
    · rw [if_pos h2, if_pos (by omega)]
    · rw [if_neg h2, if_neg (by omega)]
theorem fL_new (k : Nat) (hk : k < 26) : fL k (97 + (k : Int)) = none := by
  unfold fL f4 upd
  rw [if_neg (by omega), if_neg (by omega), if_neg (by omega), if_neg (by omega), if_neg (by omega)]
theorem fS_zero : fS 0 = fL 26 := by
  funext c
  unfold fS
  rw [if_neg (by simp)]
theorem fS_step (p : Nat) (hp : p < 10) : upd (fS p) (signs.getD p 0) 49 = fS (p + 1) := by
  funext c
  have e : signs.take (p + 1) = signs.take p ++ [signs.getD p 0] := by
    have : ∀ q : Fin 10, signs.take (q.val + 1) = signs.take q.val ++ [signs.getD q.val 0] := by decide
    exact this ⟨p, hp⟩
  unfold upd fS
  rw [e]
  by_cases h : c = signs.getD p 0
  · rw [if_pos h, if_pos (by rw [h]; simp)]
  · rw [if_neg h]
    by_cases h2 : c ∈ signs.take p
    · rw [if_pos h2, if_pos (List.mem_append_left _ h2)]
    · rw [if_neg h2, if_neg (by intro x; rcases List.mem_append.1 x with x | x; exact h2 x; exact h (by simpa using x))]
theorem fS_new (p : Nat) (hp : p < 10) : fS p (signs.getD p 0) = none := by
  have : ∀ q : Fin 10, fS q.val (signs.getD q.val 0) = none := by decide
  exact this ⟨p, hp⟩
theorem next_sign {p : Nat} (h : p < 10) (W : World) (k : Nat) (hk : W.heap[k]? = some (.stringIter ⟨#[61, 124, 59, 40, 41, 42, 43, 63, 47, 37]⟩ p)) :
    ∀ ty, (Instr.next (.pointer (some ⟨k, 0, none⟩)) true ty).run Tryz.prog W = .ok (.tuple #[.bool true, .int .i64 (p : Int), .int .i32 (signs.getD p 0)]) (W.iterAt k ⟨#[61, 124, 59, 40, 41, 42, 43, 63, 47, 37]⟩ (p + 1)) := by
  intro ty
  have key : ∀ n : Fin 10, (((⟨#[61, 124, 59, 40, 41, 42, 43, 63, 47, 37]⟩ : ByteArray)[n.val]'(by have := n.isLt; exact this)).toNat < 128) := by decide
  have val : ∀ n : Fin 10, ((((⟨#[61, 124, 59, 40, 41, 42, 43, 63, 47, 37]⟩ : ByteArray)[n.val]'(by have := n.isLt; exact this)).toNat : Int) = signs.getD n.val 0) := by decide
  have hk1 : ((⟨#[61, 124, 59, 40, 41, 42, 43, 63, 47, 37]⟩ : ByteArray)[p]'h).toNat < 128 := key ⟨p, h⟩
  have hk2 : (((⟨#[61, 124, 59, 40, 41, 42, 43, 63, 47, 37]⟩ : ByteArray)[p]'h).toNat : Int) = signs.getD p 0 := val ⟨p, h⟩
  rw [Lib.run_next_ascii_at W k _ p ty hk h hk1, hk2]
theorem sign_byte (p : Nat) (hp : p < 10) : IntKind.u8.wrap (signs.getD p 0) = signs.getD p 0 := by
  have : ∀ q : Fin 10, IntKind.u8.wrap (signs.getD q.val 0) = signs.getD q.val 0 := by decide
  exact this ⟨p, hp⟩
theorem iterAt_below {B : Nat} {w W : World} (h : Below B w W) {k : Nat} (hk : B ≤ k) (s : ByteArray) (p : Nat) : Below B w (W.iterAt k s p) := Lib.below_iterAt h hk s p
theorem iterAt_other (W : World) (k b : Nat) (h : b ≠ k) (s : ByteArray) (p : Nat) : (W.iterAt k s p).heap[b]? = W.heap[b]? := by
  unfold World.iterAt
  simp [Array.getElem?_setIfInBounds, Ne.symm h]
theorem put_below {B : Nat} {w W W' : World} (h : Below B w W) {b : Nat} (hb : B ≤ b) (s : W'.heap.size = W.heap.size) (o : ∀ k, k ≠ b → W'.heap[k]? = W.heap[k]?) (x1 : W'.os = W.os) (x2 : W'.tape = W.tape) (x3 : W'.output = W.output) : Below B w W' :=
  ⟨x1.trans h.os, x2.trans h.tape, x3.trans h.output, by rw [s]; exact h.size, fun k hk => (o k (by omega)).trans (h.block k hk)⟩
set_option maxRecDepth 20000 in
set_option maxHeartbeats 4000000 in
theorem readers_l (w : World) :
    Calls Tryz.prog 24 #[] w fun e w' => ∃ b, e = .returned (.map (some b)) ∧ Mp w' b (fS 10) ∧ Below w.heap.size w w' := by
  have hmm := @run_makeMap Tryz.prog
  obtain ⟨W1, r1, m1, s1, o1, x11, x12, x13⟩ := (Mp.new w).put 64 44 rfl
  obtain ⟨W2, r2, m2, s2, o2, x21, x22, x23⟩ := m1.put 34 45 rfl
  obtain ⟨W3, r3, m3, s3, o3, x31, x32, x33⟩ := m2.put 91 46 rfl
  obtain ⟨W4, r4, m4, s4, o4, x41, x42, x43⟩ := m3.put 60 47 rfl
  have B0 : Below w.heap.size w (w.alloc (.map #[] 0)) := Below.new1 _
  have B1 := put_below B0 (Nat.le_refl _) s1 o1 x11 x12 x13
  have B2 := put_below B1 (Nat.le_refl _) s2 o2 x21 x22 x23
  have B3 := put_below B2 (Nat.le_refl _) s3 o3 x31 x32 x33
  have B4 := hideR (put_below B3 (Nat.le_refl _) s4 o4 x41 x42 x43)
  have M4 : Hid (Mp W4 w.heap.size (fL 0)) := by rw [fL_zero]; exact m4
  clear m1 m2 m3 m4 s1 s2 s3 s4 o1 o2 o3 o4 x11 x12 x13 x21 x22 x23 x31 x32 x33 x41 x42 x43 B0 B1 B2 B3
  go_enter Tryz.func24, Tryz.ntmps24
  go_wp2_with fail
  clear r1 r2 r3 r4 hmm
  go_loopw [2] (fun u wr => ∃ k : Nat, k ≤ 26 ∧ u = .int .u8 (97 + (k : Int)) ∧ Hid (Mp wr w.heap.size (fL k)) ∧ Hid (Below w.heap.size w wr)) (fun u _ => 123 - (intOf u).toNat)
  case atStart => exact ⟨0, by omega, rfl, M4, B4⟩
  case round =>
    obtain ⟨k, hk, rfl, hm, hb⟩ := hrel
    clear M4 B4
    by_cases hlt : k < 26
    · have c1 : 97 + (k : Int) ≤ 122 := by omega
      obtain ⟨W', r, m, s, o, x1, x2, x3⟩ := (unhideR hm).put (97 + (k : Int)) 48 (fL_new k hlt)
      rw [fL_step] at m
      have M := hideR m
      have B := hideR (put_below (unhideR hb) (Nat.le_refl _) s o x1 x2 x3)
      clear m s o x1 x2 x3 hm hb
      go_wp2_with fail
      go_roundw
      case rel => exact ⟨k + 1, by omega, by go_num, M, B⟩
      case measure => simp [intOf]; omega
    · obtain rfl : k = 26 := by omega
      have c1 : ¬ 97 + ((26 : Nat) : Int) ≤ 122 := by omega
      have hlt2 := (unhideR hm).lt
      have hws := (unhideR hb).size
      have M0 : Hid (Mp (wr.iter ⟨#[61, 124, 59, 40, 41, 42, 43, 63, 47, 37]⟩ 0) w.heap.size (fS 0)) := by
        rw [fS_zero]
        exact Mp.later (unhideR hm) (iter_below _ _ _)
      have B0 : Hid (Below w.heap.size w (wr.iter ⟨#[61, 124, 59, 40, 41, 42, 43, 63, 47, 37]⟩ 0)) := (unhideR hb).trans ((iter_below _ _ _).mono hws)
      have I0 : Hid ((wr.iter ⟨#[61, 124, 59, 40, 41, 42, 43, 63, 47, 37]⟩ 0).heap[wr.heap.size]? = some (.stringIter ⟨#[61, 124, 59, 40, 41, 42, 43, 63, 47, 37]⟩ 0)) := World.iter_heap _ _ _
      clear hm hb
      go_wp2_with fail
      generalize hit : wr.heap.size = it at *
      generalize hwi : wr.iter ⟨#[61, 124, 59, 40, 41, 42, 43, 63, 47, 37]⟩ 0 = Wi at *
      clear hwi
      go_loopw [] (fun wx => ∃ p : Nat, p ≤ 10 ∧ Hid (wx.heap[it]? = some (.stringIter ⟨#[61, 124, 59, 40, 41, 42, 43, 63, 47, 37]⟩ p)) ∧ Hid (Mp wx w.heap.size (fS p)) ∧ Hid (Below w.heap.size w wx)) (fun wx => 10 - wx.iterPos it)
      case atStart => exact ⟨0, by omega, I0, M0, B0⟩
      case round =>
        obtain ⟨p, hp, hi, hm, hb⟩ := hrel
        clear I0 M0 B0
        by_cases hlt3 : p < 10
        · have hne : w.heap.size ≠ it := by omega
          have hn := next_sign hlt3 wr it (unhideR hi)
          have I1 := Lib.iterAt_heap wr it ⟨#[61, 124, 59, 40, 41, 42, 43, 63, 47, 37]⟩ p (p + 1) (unhideR hi)
          have m1 := Mp.keep (unhideR hm) (iterAt_other wr it w.heap.size hne ⟨#[61, 124, 59, 40, 41, 42, 43, 63, 47, 37]⟩ (p + 1))
          have b1 := iterAt_below (unhideR hb) (k := it) (by omega) ⟨#[61, 124, 59, 40, 41, 42, 43, 63, 47, 37]⟩ (p + 1)
          have q0 := iterPos_of (unhideR hi)
          obtain ⟨W', r, m, s, o, x1, x2, x3⟩ := m1.put (signs.getD p 0) 49 (fS_new p hlt3)
          rw [fS_step p hlt3] at m
          have M := hideR m
          have I2 : W'.heap[it]? = some (.stringIter ⟨#[61, 124, 59, 40, 41, 42, 43, 63, 47, 37]⟩ (p + 1)) := (o it (Ne.symm hne)).trans I1
          have q1 := iterPos_of I2
          have I := hideR I2
          have B := hideR (put_below b1 (Nat.le_refl _) s o x1 x2 x3)
          have t1 := sign_byte p hlt3
          clear m s o x1 x2 x3 hm hb m1 b1 hi I1 I2
          generalize wr.iterAt it ⟨#[61, 124, 59, 40, 41, 42, 43, 63, 47, 37]⟩ (p + 1) = V at *
          generalize signs.getD p 0 = z at *
          go_wp2_with fail
          go_roundw
          case rel => exact ⟨p + 1, by omega, I, M, B⟩
          case measure => rw [q0, q1]; omega
        · obtain rfl : p = 10 := by omega
          have hn := fun ty => Lib.run_next_end_at (P := Tryz.prog) wr it ⟨#[61, 124, 59, 40, 41, 42, 43, 63, 47, 37]⟩ 10 ty (unhideR hi) (by decide)
          clear hi
          go_wp2_with fail
          go_ret
          exact ⟨_, rfl, unhideR hm, unhideR hb⟩

/-! ### The token that a tail begins by -/
theorem fS_let {c : Int} (h : isLet c = true) : fS 10 c = some 48 := by
  have hc : 97 ≤ c ∧ c ≤ 122 := by simpa [isLet] using h
  have hs : c ∉ signs.take 10 := by
    intro x
    have : ∀ z ∈ signs.take 10, z < 97 ∨ 122 < z := by decide
    have := this c x
    omega
  unfold fS fL
  rw [if_neg hs, if_pos (by omega)]
theorem fS_sign {c : Int} (h : c ∈ signs) : fS 10 c = some 49 := by
  unfold fS
  rw [if_pos (by exact h)]
theorem fS_64 : fS 10 64 = some 44 := by decide
theorem fS_34 : fS 10 34 = some 45 := by decide
theorem fS_91 : fS 10 91 = some 46 := by decide
theorem fS_60 : fS 10 60 = some 47 := by decide
theorem fS_none {c : Int} (h1 : isLet c = false) (h2 : c ∉ signs) (h3 : c ≠ 64) (h4 : c ≠ 34) (h5 : c ≠ 91) (h6 : c ≠ 60) : fS 10 c = none := by
  have hc : ¬ (97 ≤ c ∧ c ≤ 122) := by
    intro x
    have : isLet c = true := by simpa [isLet] using x
    rw [h1] at this
    cases this
  unfold fS fL f4 upd
  rw [if_neg (by exact h2), if_neg (by omega), if_neg h6, if_neg h5, if_neg h4, if_neg h3]
theorem tok_none {l : List Int} (h1 : isLet (l.getD 0 0) = false) (h2 : l.getD 0 0 ∉ signs) (h3 : l.getD 0 0 ≠ 64) (h4 : l.getD 0 0 ≠ 34) (h5 : l.getD 0 0 ≠ 91) (h6 : l.getD 0 0 ≠ 60) : tokL l = none := by
  unfold tokL
  rw [h1, if_neg (by simp), if_neg h3, if_neg h2, if_neg h4, if_neg h6, if_neg h5]
/-- what is told of the call by one way to read -/
def Reads (g : Nat) (a : Option Addr) (len cap : Nat) (l : List Int) : Prop := ∀ W, Bs W a len cap l → Calls Tryz.prog g #[.slice a len cap] W fun e w' => ∃ v n, e = .returned (.tuple #[v, .int .i64 (n : Nat)]) ∧ TokO w' v n (tokL l) ∧ Below W.heap.size W w'
theorem TokO.form {w : World} {v : Value} {n : Nat} {o : Option (Tk × Nat)} (h : TokO w v n o) : ∃ k s p m c q, v = .agg #[.int .i64 k, .string s, .slice p m c, .int .i64 q] := by
  rcases h with ⟨_, rfl, _⟩ | ⟨t, _, a, c, rfl, _⟩
  · exact ⟨_, _, _, _, _, _, rfl⟩
  · exact ⟨_, _, _, _, _, _, rfl⟩
theorem TokO.set4 {w : World} {v : Value} {n : Nat} {o : Option (Tk × Nat)} (h : TokO w v n o) {g : Nat} {cs : Array Value} (hg : w.heap[g]? = some (.cells cs 24)) (x0 x1 x2 x3 : Value) :
    TokO ((((w.setCell ⟨g, 0, none⟩ x0).setCell ⟨g, 1, none⟩ x1).setCell ⟨g, 2, none⟩ x2).setCell ⟨g, 3, none⟩ x3) v n o := by
  rcases h with h | ⟨t, e, a, c, rfl, hr⟩
  · exact .inl h
  · exact .inr ⟨t, e, a, c, rfl, Rs.set4 hr hg _ _ _ _⟩
set_option maxRecDepth 20000 in
set_option maxHeartbeats 4000000 in
theorem token_name (a : Option Addr) (len cap : Nat) (l : List Int) (w : World) (h : Bs w a len cap l) (hp : 1 ≤ len) (b : Nat) (hm : Mp w b (fS 10)) (hf : fS 10 (l.getD 0 0) = some 48) (hr : Reads 48 a len cap l) :
    Calls Tryz.prog 26 #[.slice a len cap, .map (some b)] w fun e w' => ∃ v n, e = .returned (.tuple #[v, .int .i64 (n : Nat)]) ∧ TokO w' v n (tokL l) ∧ Below w.heap.size w w' := by
  have HB := hideR (Bs.later h (Below.new1 zTok) (Nat.le_refl _))
  have lk := (Mp.later hm (Below.new1 zTok)).get (l.getD 0 0)
  rw [hf] at lk
  simp only [Option.isSome_some] at lk
  obtain ⟨bb, off, rfl, hb⟩ := h.open (by omega)
  obtain ⟨z, hz, z0, z1, cz⟩ := bat hb 0 (by omega)
  rw [Nat.add_zero] at cz
  rw [hz] at lk
  have cz1 : (w.alloc zTok).cell? ⟨bb, off, none⟩ = some (.int .u8 z) := by rw [(Below.new1 (w := w) zTok).cell (block_lt' cz)]; exact cz
  have CR := hideR hr
  unfold zTok at *
  clear h hb hm hf hr hz cz
  go_enter Tryz.func26, Tryz.ntmps26
  go_wp2_with fail
  refine (unhideR CR _ (unhideR HB)).mono ?_
  rintro e w1 ⟨v, n, rfl, to, b1⟩
  obtain ⟨k, s, p, m, c, q, rfl⟩ := to.form
  have HT := hideR to
  clear CR HB to
  have HG := kept_new b1
  obtain ⟨⟨q0, q1, q2, q3⟩, f0, f1, f2, f3⟩ := cells4 HG
  go_wp2_with fail
  (try simp only [Exit.inBlock, Exit.then])
  refine bodyPost_ret (v := .tuple #[.agg #[.int .i64 k, .string s, .slice p m c, .int .i64 q], .int .i64 (n : Nat)]) ?_ rfl ⟨_, _, rfl, TokO.set4 (unhideR HT) HG _ _ _ _, ?_⟩
  · rw [results_cell_tmp rfl]
    go_simp
  · exact set4 ((Below.new1 _).trans (b1.mono (by simp))) (Nat.le_refl _) _ _ _ _
set_option maxRecDepth 20000 in
set_option maxHeartbeats 4000000 in
theorem token_sign (a : Option Addr) (len cap : Nat) (l : List Int) (w : World) (h : Bs w a len cap l) (hp : 1 ≤ len) (b : Nat) (hm : Mp w b (fS 10)) (hf : fS 10 (l.getD 0 0) = some 49) (hr : Reads 49 a len cap l) :
    Calls Tryz.prog 26 #[.slice a len cap, .map (some b)] w fun e w' => ∃ v n, e = .returned (.tuple #[v, .int .i64 (n : Nat)]) ∧ TokO w' v n (tokL l) ∧ Below w.heap.size w w' := by
  have HB := hideR (Bs.later h (Below.new1 zTok) (Nat.le_refl _))
  have lk := (Mp.later hm (Below.new1 zTok)).get (l.getD 0 0)
  rw [hf] at lk
  simp only [Option.isSome_some] at lk
  obtain ⟨bb, off, rfl, hb⟩ := h.open (by omega)
  obtain ⟨z, hz, z0, z1, cz⟩ := bat hb 0 (by omega)
  rw [Nat.add_zero] at cz
  rw [hz] at lk
  have cz1 : (w.alloc zTok).cell? ⟨bb, off, none⟩ = some (.int .u8 z) := by rw [(Below.new1 (w := w) zTok).cell (block_lt' cz)]; exact cz
  have CR := hideR hr
  unfold zTok at *
  clear h hb hm hf hr hz cz
  go_enter Tryz.func26, Tryz.ntmps26
  go_wp2_with fail
  refine (unhideR CR _ (unhideR HB)).mono ?_
  rintro e w1 ⟨v, n, rfl, to, b1⟩
  obtain ⟨k, s, p, m, c, q, rfl⟩ := to.form
  have HT := hideR to
  clear CR HB to
  have HG := kept_new b1
  obtain ⟨⟨q0, q1, q2, q3⟩, f0, f1, f2, f3⟩ := cells4 HG
  go_wp2_with fail
  (try simp only [Exit.inBlock, Exit.then])
  refine bodyPost_ret (v := .tuple #[.agg #[.int .i64 k, .string s, .slice p m c, .int .i64 q], .int .i64 (n : Nat)]) ?_ rfl ⟨_, _, rfl, TokO.set4 (unhideR HT) HG _ _ _ _, ?_⟩
  · rw [results_cell_tmp rfl]
    go_simp
  · exact set4 ((Below.new1 _).trans (b1.mono (by simp))) (Nat.le_refl _) _ _ _ _
set_option maxRecDepth 20000 in
set_option maxHeartbeats 4000000 in
theorem token_mark (a : Option Addr) (len cap : Nat) (l : List Int) (w : World) (h : Bs w a len cap l) (hp : 1 ≤ len) (b : Nat) (hm : Mp w b (fS 10)) (hf : fS 10 (l.getD 0 0) = some 44) (hr : Reads 44 a len cap l) :
    Calls Tryz.prog 26 #[.slice a len cap, .map (some b)] w fun e w' => ∃ v n, e = .returned (.tuple #[v, .int .i64 (n : Nat)]) ∧ TokO w' v n (tokL l) ∧ Below w.heap.size w w' := by
  have HB := hideR (Bs.later h (Below.new1 zTok) (Nat.le_refl _))
  have lk := (Mp.later hm (Below.new1 zTok)).get (l.getD 0 0)
  rw [hf] at lk
  simp only [Option.isSome_some] at lk
  obtain ⟨bb, off, rfl, hb⟩ := h.open (by omega)
  obtain ⟨z, hz, z0, z1, cz⟩ := bat hb 0 (by omega)
  rw [Nat.add_zero] at cz
  rw [hz] at lk
  have cz1 : (w.alloc zTok).cell? ⟨bb, off, none⟩ = some (.int .u8 z) := by rw [(Below.new1 (w := w) zTok).cell (block_lt' cz)]; exact cz
  have CR := hideR hr
  unfold zTok at *
  clear h hb hm hf hr hz cz
  go_enter Tryz.func26, Tryz.ntmps26
  go_wp2_with fail
  refine (unhideR CR _ (unhideR HB)).mono ?_
  rintro e w1 ⟨v, n, rfl, to, b1⟩
  obtain ⟨k, s, p, m, c, q, rfl⟩ := to.form
  have HT := hideR to
  clear CR HB to
  have HG := kept_new b1
  obtain ⟨⟨q0, q1, q2, q3⟩, f0, f1, f2, f3⟩ := cells4 HG
  go_wp2_with fail
  (try simp only [Exit.inBlock, Exit.then])
  refine bodyPost_ret (v := .tuple #[.agg #[.int .i64 k, .string s, .slice p m c, .int .i64 q], .int .i64 (n : Nat)]) ?_ rfl ⟨_, _, rfl, TokO.set4 (unhideR HT) HG _ _ _ _, ?_⟩
  · rw [results_cell_tmp rfl]
    go_simp
  · exact set4 ((Below.new1 _).trans (b1.mono (by simp))) (Nat.le_refl _) _ _ _ _
set_option maxRecDepth 20000 in
set_option maxHeartbeats 4000000 in
theorem token_lit (a : Option Addr) (len cap : Nat) (l : List Int) (w : World) (h : Bs w a len cap l) (hp : 1 ≤ len) (b : Nat) (hm : Mp w b (fS 10)) (hf : fS 10 (l.getD 0 0) = some 45) (hr : Reads 45 a len cap l) :
    Calls Tryz.prog 26 #[.slice a len cap, .map (some b)] w fun e w' => ∃ v n, e = .returned (.tuple #[v, .int .i64 (n : Nat)]) ∧ TokO w' v n (tokL l) ∧ Below w.heap.size w w' := by
  have HB := hideR (Bs.later h (Below.new1 zTok) (Nat.le_refl _))
  have lk := (Mp.later hm (Below.new1 zTok)).get (l.getD 0 0)
  rw [hf] at lk
  simp only [Option.isSome_some] at lk
  obtain ⟨bb, off, rfl, hb⟩ := h.open (by omega)
  obtain ⟨z, hz, z0, z1, cz⟩ := bat hb 0 (by omega)
  rw [Nat.add_zero] at cz
  rw [hz] at lk
  have cz1 : (w.alloc zTok).cell? ⟨bb, off, none⟩ = some (.int .u8 z) := by rw [(Below.new1 (w := w) zTok).cell (block_lt' cz)]; exact cz
  have CR := hideR hr
  unfold zTok at *
  clear h hb hm hf hr hz cz
  go_enter Tryz.func26, Tryz.ntmps26
  go_wp2_with fail
  refine (unhideR CR _ (unhideR HB)).mono ?_
  rintro e w1 ⟨v, n, rfl, to, b1⟩
  obtain ⟨k, s, p, m, c, q, rfl⟩ := to.form
  have HT := hideR to
  clear CR HB to
  have HG := kept_new b1
  obtain ⟨⟨q0, q1, q2, q3⟩, f0, f1, f2, f3⟩ := cells4 HG
  go_wp2_with fail
  (try simp only [Exit.inBlock, Exit.then])
  refine bodyPost_ret (v := .tuple #[.agg #[.int .i64 k, .string s, .slice p m c, .int .i64 q], .int .i64 (n : Nat)]) ?_ rfl ⟨_, _, rfl, TokO.set4 (unhideR HT) HG _ _ _ _, ?_⟩
  · rw [results_cell_tmp rfl]
    go_simp
  · exact set4 ((Below.new1 _).trans (b1.mono (by simp))) (Nat.le_refl _) _ _ _ _
set_option maxRecDepth 20000 in
set_option maxHeartbeats 4000000 in
theorem token_class (a : Option Addr) (len cap : Nat) (l : List Int) (w : World) (h : Bs w a len cap l) (hp : 1 ≤ len) (b : Nat) (hm : Mp w b (fS 10)) (hf : fS 10 (l.getD 0 0) = some 46) (hr : Reads 46 a len cap l) :
    Calls Tryz.prog 26 #[.slice a len cap, .map (some b)] w fun e w' => ∃ v n, e = .returned (.tuple #[v, .int .i64 (n : Nat)]) ∧ TokO w' v n (tokL l) ∧ Below w.heap.size w w' := by
  have HB := hideR (Bs.later h (Below.new1 zTok) (Nat.le_refl _))
  have lk := (Mp.later hm (Below.new1 zTok)).get (l.getD 0 0)
  rw [hf] at lk
  simp only [Option.isSome_some] at lk
  obtain ⟨bb, off, rfl, hb⟩ := h.open (by omega)
  obtain ⟨z, hz, z0, z1, cz⟩ := bat hb 0 (by omega)
  rw [Nat.add_zero] at cz
  rw [hz] at lk
  have cz1 : (w.alloc zTok).cell? ⟨bb, off, none⟩ = some (.int .u8 z) := by rw [(Below.new1 (w := w) zTok).cell (block_lt' cz)]; exact cz
  have CR := hideR hr
  unfold zTok at *
  clear h hb hm hf hr hz cz
  go_enter Tryz.func26, Tryz.ntmps26
  go_wp2_with fail
  refine (unhideR CR _ (unhideR HB)).mono ?_
  rintro e w1 ⟨v, n, rfl, to, b1⟩
  obtain ⟨k, s, p, m, c, q, rfl⟩ := to.form
  have HT := hideR to
  clear CR HB to
  have HG := kept_new b1
  obtain ⟨⟨q0, q1, q2, q3⟩, f0, f1, f2, f3⟩ := cells4 HG
  go_wp2_with fail
  (try simp only [Exit.inBlock, Exit.then])
  refine bodyPost_ret (v := .tuple #[.agg #[.int .i64 k, .string s, .slice p m c, .int .i64 q], .int .i64 (n : Nat)]) ?_ rfl ⟨_, _, rfl, TokO.set4 (unhideR HT) HG _ _ _ _, ?_⟩
  · rw [results_cell_tmp rfl]
    go_simp
  · exact set4 ((Below.new1 _).trans (b1.mono (by simp))) (Nat.le_refl _) _ _ _ _
set_option maxRecDepth 20000 in
set_option maxHeartbeats 4000000 in
theorem token_octets (a : Option Addr) (len cap : Nat) (l : List Int) (w : World) (h : Bs w a len cap l) (hp : 1 ≤ len) (b : Nat) (hm : Mp w b (fS 10)) (hf : fS 10 (l.getD 0 0) = some 47) (hr : Reads 47 a len cap l) :
    Calls Tryz.prog 26 #[.slice a len cap, .map (some b)] w fun e w' => ∃ v n, e = .returned (.tuple #[v, .int .i64 (n : Nat)]) ∧ TokO w' v n (tokL l) ∧ Below w.heap.size w w' := by
  have HB := hideR (Bs.later h (Below.new1 zTok) (Nat.le_refl _))
  have lk := (Mp.later hm (Below.new1 zTok)).get (l.getD 0 0)
  rw [hf] at lk
  simp only [Option.isSome_some] at lk
  obtain ⟨bb, off, rfl, hb⟩ := h.open (by omega)
  obtain ⟨z, hz, z0, z1, cz⟩ := bat hb 0 (by omega)
  rw [Nat.add_zero] at cz
  rw [hz] at lk
  have cz1 : (w.alloc zTok).cell? ⟨bb, off, none⟩ = some (.int .u8 z) := by rw [(Below.new1 (w := w) zTok).cell (block_lt' cz)]; exact cz
  have CR := hideR hr
  unfold zTok at *
  clear h hb hm hf hr hz cz
  go_enter Tryz.func26, Tryz.ntmps26
  go_wp2_with fail
  refine (unhideR CR _ (unhideR HB)).mono ?_
  rintro e w1 ⟨v, n, rfl, to, b1⟩
  obtain ⟨k, s, p, m, c, q, rfl⟩ := to.form
  have HT := hideR to
  clear CR HB to
  have HG := kept_new b1
  obtain ⟨⟨q0, q1, q2, q3⟩, f0, f1, f2, f3⟩ := cells4 HG
  go_wp2_with fail
  (try simp only [Exit.inBlock, Exit.then])
  refine bodyPost_ret (v := .tuple #[.agg #[.int .i64 k, .string s, .slice p m c, .int .i64 q], .int .i64 (n : Nat)]) ?_ rfl ⟨_, _, rfl, TokO.set4 (unhideR HT) HG _ _ _ _, ?_⟩
  · rw [results_cell_tmp rfl]
    go_simp
  · exact set4 ((Below.new1 _).trans (b1.mono (by simp))) (Nat.le_refl _) _ _ _ _
set_option maxRecDepth 20000 in
set_option maxHeartbeats 4000000 in
theorem token_none (a : Option Addr) (len cap : Nat) (l : List Int) (w : World) (h : Bs w a len cap l) (hp : 1 ≤ len) (b : Nat) (hm : Mp w b (fS 10)) (hf : fS 10 (l.getD 0 0) = none) (ht : tokL l = none) :
    Calls Tryz.prog 26 #[.slice a len cap, .map (some b)] w fun e w' => ∃ v n, e = .returned (.tuple #[v, .int .i64 (n : Nat)]) ∧ TokO w' v n (tokL l) ∧ Below w.heap.size w w' := by
  rw [ht]
  have lk := (Mp.later hm (Below.new1 zTok)).get (l.getD 0 0)
  rw [hf] at lk
  simp only [Option.isSome_none] at lk
  obtain ⟨bb, off, rfl, hb⟩ := h.open (by omega)
  obtain ⟨z, hz, z0, z1, cz⟩ := bat hb 0 (by omega)
  rw [Nat.add_zero] at cz
  rw [hz] at lk
  have cz1 : (w.alloc zTok).cell? ⟨bb, off, none⟩ = some (.int .u8 z) := by rw [(Below.new1 (w := w) zTok).cell (block_lt' cz)]; exact cz
  unfold zTok at *
  clear h hb hm hf hz cz ht
  go_enter Tryz.func26, Tryz.ntmps26
  go_wp2_with fail
  (try simp only [Exit.inBlock, Exit.then])
  refine bodyPost_ret (v := .tuple #[zeroTok, .int .i64 (0 : Nat)]) ?_ rfl ⟨_, _, rfl, .inl ⟨rfl, rfl, rfl⟩, ?_⟩
  · rw [results_cell_tmp rfl]
    go_simp
    try rfl
  · exact Below.new1 _
theorem token_l (a : Option Addr) (len cap : Nat) (l : List Int) (w : World) (h : Bs w a len cap l) (hl : len ≤ 100000) (hp : 1 ≤ len) (b : Nat) (hm : Mp w b (fS 10)) :
    Calls Tryz.prog 26 #[.slice a len cap, .map (some b)] w fun e w' => ∃ v n, e = .returned (.tuple #[v, .int .i64 (n : Nat)]) ∧ TokO w' v n (tokL l) ∧ Below w.heap.size w w' := by
  cases h1 : isLet (l.getD 0 0) with
  | true => exact token_name a len cap l w h hp b hm (fS_let h1) (fun W hB => name_l a len cap l W hB (by omega) h1)
  | false =>
    by_cases h2 : l.getD 0 0 ∈ signs
    · exact token_sign a len cap l w h hp b hm (fS_sign h2) (fun W hB => sign_l a len cap l W hB hp h2)
    · by_cases h3 : l.getD 0 0 = 64
      · exact token_mark a len cap l w h hp b hm (by rw [h3]; exact fS_64) (fun W hB => mark_l a len cap l W hB (by omega) hp h3)
      · by_cases h4 : l.getD 0 0 = 34
        · exact token_lit a len cap l w h hp b hm (by rw [h4]; exact fS_34) (fun W hB => lit_l a len cap l W hB hl hp h4)
        · by_cases h5 : l.getD 0 0 = 91
          · exact token_class a len cap l w h hp b hm (by rw [h5]; exact fS_91) (fun W hB => class_l a len cap l W hB hl hp h5)
          · by_cases h6 : l.getD 0 0 = 60
            · exact token_octets a len cap l w h hp b hm (by rw [h6]; exact fS_60) (fun W hB => octets_l a len cap l W hB hl hp h6)
            · exact token_none a len cap l w h hp b hm (fS_none h1 h2 h3 h4 h5 h6) (tok_none h1 h2 h3 h4 h5 h6)
end Go.Proofs.YtdaadeohamkoiaaGreatDoor.T
