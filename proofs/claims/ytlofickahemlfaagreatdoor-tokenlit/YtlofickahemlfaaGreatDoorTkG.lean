/- Contracts of package token: the tokens that are names, marks, and signs. -/
import Derived.Test.YtlofickahemlfaaGreatDoorTkF
import Derived.Test.YtlofickahemlfaaGreatDoorUtfAwake
import Derived.Laws.Tables
import Derived.Laws.Rows
import Derived.Laws.ResultCell
import Derived.Laws.CopyOwn
namespace Go.Proofs.YtlofickahemlfaaGreatDoor.T
open Go.RowKit
set_option linter.unusedVariables false
set_option linter.unusedSimpArgs false

theorem head_run (a : Option Addr) (len cap k : Nat) (i : Int) (hi : i = (k : Int)) (hk : k ≤ cap) : ∀ W, (Instr.slice 49 (.slice a len cap) none (some (.int .i64 i)) none).run Tryz.prog W = .ok (.slice a k cap) W := by
  intro W
  subst hi
  have hu : Tryz.prog.underlying 49 = some (.slice 5) := Tryz.underlying49
  unfold Instr.slice
  cases a with
  | none => simp [hu, run_underlying, Instr.sliceBounds, Instr.sliceBound, asIntOf, hk, Tryz.sizeOf5]
  | some x => simp [hu, run_underlying, Instr.sliceBounds, Instr.sliceBound, asIntOf, hk, Tryz.sizeOf5, Addr.add]
theorem Bs.head {w : World} {a : Option Addr} {len cap : Nat} {l : List Int} (h : Bs w a len cap l) (k : Nat) (hk : k ≤ len) : Bs w a k cap (l.take k) := by
  have h1 := h.hcap
  refine ⟨by rw [List.length_take, h.hlen]; omega, by omega, h.hmax, fun z hz => h.hbytes z (List.mem_of_mem_take hz), fun i hi => ?_⟩
  obtain ⟨b, off, ha, hc⟩ := h.hcell i (by omega)
  refine ⟨b, off, ha, ?_⟩
  rw [hc]
  simp [List.getD, hi]
theorem results_row2 {P : Program} {fn : Func} {p u : Tmp} {ty : TypeId} (h : fn.results = #[.cell p ty, .tmp u]) (tmps : Array Value) (w : World) (g : Nat) (t : TypeId) (cs : Array Value) (fr : Nat × Nat) (d : TypeDesc)
    (hp : tmps.getD p undef = .pointer (some ⟨g, 0, none⟩)) (hg : w.heap[g]? = some (.cells cs t fr))
    (hu : P.underlying ty = some d) (hd : (match d with | .struct _ | .array _ _ => true | _ => false) = true) (hi : (P.info? ty).map (·.size) = some cs.size) :
    (results fn tmps).run P w = .ok (.tuple #[.agg cs, tmps.getD u undef]) w := by
  rw [results_cell_tmp h, hp]
  simp [asAddr, run_loadVar_row w g t ty cs fr d hg hu hd hi, Result.andThen]
theorem tstr {w : World} {a : Option Addr} {len cap : Nat} {l : List Int} (h : Bs w a len cap l) :
    (convert 49 9 (.slice a len cap)).run Tryz.prog w = .ok (.string (strOfNums l)) w := by
  by_cases hp : 1 ≤ len
  · obtain ⟨b, off, rfl, hb⟩ := h.open hp
    exact run_convert_bytes_arg w 49 5 Tryz.underlying49 Tryz.underlying5 b off len cap l hb.hlen hb.hcell 9 Tryz.underlying9
  · have h0 : len = 0 := by omega
    have hl := h.hlen
    subst h0
    have : l = [] := List.eq_nil_of_length_eq_zero hl
    subst this
    cases a with
    | none => exact run_convert_bytes_nil w 49 5 Tryz.underlying49 Tryz.underlying5 0 cap 9 Tryz.underlying9
    | some x =>
      rw [run_convert_bytes_string w 49 9 5 _ 0 cap Tryz.underlying49 Tryz.underlying5 Tryz.underlying9, run_bytesToString w x 0 cap [] (loadCells0 w x)]
      rfl
theorem kept_new {w w1 : World} {o : Obj} (b : Below (w.alloc o).heap.size (w.alloc o) w1) : w1.heap[w.heap.size]? = some o := by
  rw [b.block _ (by simp)]
  exact heap_alloc_new w o

/-! ### What is told of a token -/
def zeroTok : Value := .agg #[.int .i64 0, .string ⟨#[]⟩, .slice none 0 0, .int .i64 0]
/-- where it lies are ranges -/
def Ty (w : World) (a : Option Addr) : Prop := ∀ b off, a = some ⟨b, off, none⟩ → ∃ cs fr, w.heap[b]? = some (.cells cs 42 fr)
theorem Ty.later {w w' : World} {a : Option Addr} (h : Ty w a) (b : Below w.heap.size w w') : Ty w' a := by
  intro k off e
  obtain ⟨cs, fr, hk⟩ := h k off e
  exact ⟨cs, fr, (b.block k (Array.getElem?_eq_some_iff.1 hk).1).trans hk⟩
theorem Ty.nil (w : World) : Ty w none := fun _ _ e => by cases e
def TokV (w : World) (v : Value) (t : Tk) (p : Int) : Prop := ∃ a c, v = .agg #[.int .i64 t.1, .string (strOfNums t.2.1), .slice a t.2.2.length c, .int .i64 p] ∧ Rs w a t.2.2.length c t.2.2 ∧ Ty w a
def TokO (w : World) (v : Value) (n : Nat) (o : Option (Tk × Nat)) : Prop := (o = none ∧ v = zeroTok ∧ n = 0) ∨ ∃ t, o = some (t, n) ∧ TokV w v t 0
theorem TokV.later {w w' : World} {v : Value} {t : Tk} {p : Int} (h : TokV w v t p) (b : Below w.heap.size w w') : TokV w' v t p := by
  obtain ⟨a, c, e, hr, ht⟩ := h
  exact ⟨a, c, e, hr.later b (Nat.le_refl _), ht.later b⟩
theorem TokV.plain (w : World) (k : Int) (x : List Int) (p : Int) : TokV w (.agg #[.int .i64 k, .string (strOfNums x), .slice none 0 0, .int .i64 p]) (k, x, []) p :=
  ⟨none, 0, rfl, Rs.nil w, Ty.nil w⟩

theorem tok_name {l : List Int} (h : isLet (l.getD 0 0) = true) : tokL l = if 12 < wordN l then none else some ((0, l.take (wordN l), []), wordN l) := by unfold tokL; rw [if_pos h]
theorem tail_len : ∀ l : List Int, tailN l ≤ l.length := by
  intro l
  induction l with
  | nil => simp [tailN]
  | cons z t ih => simp only [tailN]; split <;> simp <;> omega
theorem word_len (l : List Int) : wordN l ≤ l.length := by
  unfold wordN
  split
  · next h =>
    have h0 : l ≠ [] := by intro c; rw [c] at h; exact absurd h (by decide)
    have hl : 1 ≤ l.length := by cases l <;> simp_all
    have := tail_len (l.drop 1)
    rw [List.length_drop] at this
    omega
  · omega
set_option maxRecDepth 20000 in
set_option maxHeartbeats 2000000 in
theorem name_l (a : Option Addr) (len cap : Nat) (l : List Int) (w : World) (h : Bs w a len cap l) (hl : len ≤ 1000000) (h0 : isLet (l.getD 0 0) = true) :
    Calls Tryz.prog 40 #[.slice a len cap] w fun e w' => ∃ v n, e = .returned (.tuple #[v, .int .i64 (n : Nat)]) ∧ TokO w' v n (tokL l) ∧ Below w.heap.size w w' := by
  rw [tok_name h0]
  have hlen := h.hlen
  have hcap := h.hcap
  have hwl := word_len l
  have CN := hideR (fun o => nameBytes_l a len cap l (w.alloc o) (Bs.later h (Below.new1 o) (Nat.le_refl _)) hl)
  have hr := head_run a len cap (wordN l) (wordN l) rfl (by omega)
  have hs := fun o => tstr (Bs.later (Bs.head h (wordN l) (by omega)) (Below.new1 (w := w) o) (Nat.le_refl _))
  have HT := hideR (fun (W : World) => TokV.plain W 0 (l.take (wordN l)) 0)
  clear h h0
  generalize strOfNums (l.take (wordN l)) = S at *
  generalize l.take (wordN l) = x at *
  generalize wordN l = m at *
  by_cases c : 12 < m
  · rw [if_pos c]
    go_enter Tryz.func40, Tryz.ntmps40
    go_wp2_with fail
    refine (unhideR CN _).mono ?_
    rintro e w1 ⟨rfl, rfl⟩
    go_wp2_with fail
    (try simp only [Exit.inBlock, Exit.then])
    refine bodyPost_ret (v := .tuple #[zeroTok, .int .i64 (0 : Nat)]) ?_ rfl ⟨_, _, rfl, .inl ⟨rfl, rfl, rfl⟩, ?_⟩
    · rw [results_cell_tmp rfl]
      go_simp
      rfl
    · exact Below.new1 _
  · rw [if_neg c]
    go_enter Tryz.func40, Tryz.ntmps40
    go_wp2_with fail
    refine (unhideR CN _).mono ?_
    rintro e w1 ⟨rfl, rfl⟩
    go_wp2_with fail
    (try simp only [Exit.inBlock, Exit.then])
    refine bodyPost_ret (v := .tuple #[.agg #[.int .i64 0, .string S, .slice none 0 0, .int .i64 0], .int .i64 (m : Nat)]) ?_ rfl ⟨_, _, rfl, .inr ⟨_, rfl, unhideR HT _⟩, ?_⟩
    · rw [results_cell_tmp rfl]
      go_simp
    · exact Below.new1 _

theorem tok_sign {l : List Int} (h : l.getD 0 0 ∈ signs) : tokL l = some ((4, l.take 1, []), 1) := by
  have hb : l.getD 0 0 ≠ 0 := by intro c; rw [c] at h; exact absurd h (by decide)
  have h1 : isLet (l.getD 0 0) = false := by
    have : ∀ z ∈ signs, isLet z = false := by decide
    exact this _ h
  have h2 : ¬ l.getD 0 0 = 64 := by
    have : ∀ z ∈ signs, ¬ z = 64 := by decide
    exact this _ h
  unfold tokL
  rw [h1, if_neg (by simp), if_neg h2, if_pos h]
  cases l with
  | nil => exact absurd rfl hb
  | cons z t => simp
set_option maxRecDepth 20000 in
set_option maxHeartbeats 2000000 in
theorem sign_l (a : Option Addr) (len cap : Nat) (l : List Int) (w : World) (h : Bs w a len cap l) (hl : 1 ≤ len) (h0 : l.getD 0 0 ∈ signs) :
    Calls Tryz.prog 41 #[.slice a len cap] w fun e w' => ∃ v n, e = .returned (.tuple #[v, .int .i64 (n : Nat)]) ∧ TokO w' v n (tokL l) ∧ Below w.heap.size w w' := by
  rw [tok_sign h0]
  have hr := head_run a len cap 1 1 rfl (by have := h.hcap; omega)
  have hs := fun o => tstr (Bs.later (Bs.head h 1 hl) (Below.new1 (w := w) o) (Nat.le_refl _))
  have HT := hideR (fun (W : World) => TokV.plain W 4 (l.take 1) 0)
  clear h h0
  generalize strOfNums (l.take 1) = S at *
  generalize l.take 1 = x at *
  go_enter Tryz.func41, Tryz.ntmps41
  go_wp2_with fail
  (try simp only [Exit.inBlock, Exit.then])
  refine bodyPost_ret (v := .tuple #[.agg #[.int .i64 4, .string S, .slice none 0 0, .int .i64 0], .int .i64 (1 : Nat)]) ?_ rfl ⟨_, _, rfl, .inr ⟨_, rfl, unhideR HT _⟩, ?_⟩
  · rw [results_cell_tmp rfl]
    go_simp
  · exact Below.new1 _

theorem tok_mark {l : List Int} (h : l.getD 0 0 = 64) : tokL l = if markL ((l.drop 1).take (wordN (l.drop 1))) then some ((5, (l.drop 1).take (wordN (l.drop 1)), []), wordN (l.drop 1) + 1) else none := by
  unfold tokL markL
  rw [h, if_neg (by decide), if_pos rfl]
  by_cases c : (l.drop 1).take (wordN (l.drop 1)) ∈ marks
  · rw [if_pos c, if_pos (decide_eq_true c)]
  · rw [if_neg c, if_neg (by rw [decide_eq_false c]; simp)]
set_option maxRecDepth 20000 in
set_option maxHeartbeats 2000000 in
theorem mark_l (a : Option Addr) (len cap : Nat) (l : List Int) (w : World) (h : Bs w a len cap l) (hl : len ≤ 1000000) (hp : 1 ≤ len) (h0 : l.getD 0 0 = 64) :
    Calls Tryz.prog 36 #[.slice a len cap] w fun e w' => ∃ v n, e = .returned (.tuple #[v, .int .i64 (n : Nat)]) ∧ TokO w' v n (tokL l) ∧ Below w.heap.size w w' := by
  rw [tok_mark h0]
  have hlen := h.hlen
  have hcap := h.hcap
  have hwl := word_len (l.drop 1)
  rw [List.length_drop] at hwl
  have hd := Bs.dropA h 1 hp
  have sl := tail_run a len cap 1 1 rfl hp
  have CN := hideR (fun o => nameBytes_l _ _ _ _ (w.alloc o) (Bs.later hd (Below.new1 o) (Nat.le_refl _)) (by omega))
  have hr := head_run (dropA a cap 1) (len - 1) (cap - 1) (wordN (l.drop 1)) (wordN (l.drop 1)) rfl (by omega)
  have hdh := Bs.head hd (wordN (l.drop 1)) (by omega)
  have hs := fun o => tstr (Bs.later hdh (Below.new1 (w := w) o) (Nat.le_refl _))
  have CM := hideR (fun W => isMark_l _ _ (St.of hdh.hbytes) W)
  have HT := hideR (fun (W : World) => TokV.plain W 5 ((l.drop 1).take (wordN (l.drop 1))) 0)
  clear h h0 hdh hd
  generalize strOfNums ((l.drop 1).take (wordN (l.drop 1))) = S at *
  generalize (l.drop 1).take (wordN (l.drop 1)) = x at *
  generalize wordN (l.drop 1) = m at *
  have t1 := wrapI (1 + (m : Int)) (by omega)
  cases c : markL x with
  | false =>
    rw [c] at CM
    rw [if_neg (by simp)]
    go_enter Tryz.func36, Tryz.ntmps36
    go_wp2_with fail
    refine (unhideR CN _).mono ?_
    rintro e w1 ⟨rfl, rfl⟩
    go_wp2_with fail
    refine (unhideR CM _).mono ?_
    rintro e w1 ⟨rfl, rfl⟩
    go_wp2_with fail
    (try simp only [Exit.inBlock, Exit.then])
    refine bodyPost_ret (v := .tuple #[zeroTok, .int .i64 (0 : Nat)]) ?_ rfl ⟨_, _, rfl, .inl ⟨rfl, rfl, rfl⟩, ?_⟩
    · rw [results_cell_tmp rfl]
      go_simp
      rfl
    · exact Below.new1 _
  | true =>
    rw [c] at CM
    rw [if_pos rfl]
    go_enter Tryz.func36, Tryz.ntmps36
    go_wp2_with fail
    refine (unhideR CN _).mono ?_
    rintro e w1 ⟨rfl, rfl⟩
    go_wp2_with fail
    refine (unhideR CM _).mono ?_
    rintro e w1 ⟨rfl, rfl⟩
    go_wp2_with fail
    (try simp only [Exit.inBlock, Exit.then])
    refine bodyPost_ret (v := .tuple #[.agg #[.int .i64 5, .string S, .slice none 0 0, .int .i64 0], .int .i64 ((m + 1 : Nat) : Int)]) ?_ rfl ⟨_, _, rfl, .inr ⟨_, rfl, unhideR HT _⟩, ?_⟩
    · rw [results_cell_tmp rfl]
      go_simp
      omega
    · exact Below.new1 _
end Go.Proofs.YtlofickahemlfaaGreatDoor.T
