/- Parts of the proof of NullTells that stand ahead of it (37: NlLf, NlSame, NlAwake, NlLLefts, NlRefO, NlRefP, NlRefA, NlRefK, NlLJoin, NlMore, NlRefL, NlRefE, NlLTells). -/
import Derived.Test.YtnfgobgflcmepaaGreatDoorNullTellsM35
import Derived.Test.YtnfgobgflcmepaaGreatDoorNullTellsM28
import Derived.Test.YtnfgobgflcmepaaGreatDoorNullTellsM34
import Derived.Deep.RegionHeld3
import Derived.Deep.RegionWith
import Derived.Deep.AppendLies
import Derived.Test.YtnfgobgflcmepaaGreatDoorNullTellsM19
set_option linter.unusedVariables false
set_option linter.unusedSimpArgs false
set_option maxRecDepth 20000
set_option maxHeartbeats 16000000
namespace Go.Proofs.YtnfgobgflcmepaaGreatDoor.Nl
open Go.RowKit Go.Shelf Go.Proofs.YtnfgobgflcmepaaGreatDoor.T Go.Proofs.YtnfgobgflcmepaaGreatDoor.R Go.Proofs.YtnfgobgflcmepaaGreatDoor.F
def lefL (is : List Bool) : List SY → List Int
 | [] => []
 | s :: l => if s.1 = 2 then s.2.2 :: (if nulS is s = true then lefL is l else []) else []
theorem lef_is {P : List PRD} {E : List Int} (hE : ∀ x, x ∈ E ↔ isN P x) : ∀ l : List SY, kY E l = lefL (nuL P) l := by
 intro l
 induction l with
 | nil => rfl
 | cons s l ih =>
  unfold kY lefL
  by_cases h2 : s.1 = 2
  ·rw [if_pos h2, if_pos h2, ih]
   by_cases hn : s.2.2 ∈ E
   ·rw [if_pos hn, if_pos (nulS_nu.2 ⟨h2, (hE _).1 hn⟩)]
   ·rw [if_neg hn, if_neg (fun c => hn ((hE _).2 (nulS_nu.1 c).2))]
  ·rw [if_neg h2, if_neg h2]
def leftP (g : GR) (n x : Int) : Prop := yo g.1 = true ∧ ∃ (i : Nat) (p : PRD) (a : List SY), n = (i : Int) ∧ g.1[i]? = some p ∧ a ∈ p.1 ∧ x ∈ lefL (nuL g.1) a
def LfR (w : World) (g : GR) (n : Int) (e : Ending) (w' : World) : Prop := ∃ v L, e = .returned v ∧ InV w' w.heap.size v L ∧ List.Pairwise (· < ·) L ∧ (∀ x, x ∈ L ↔ leftP g n x) ∧ Below w.heap.size w w'
theorem InV.nil (w : World) (base : Nat) : InV w base (.slice none 0 0) [] := World.ownsRow_nil w base _ _
theorem LfR.none {w w' : World} {g : GR} {n : Int} (h : ∀ x, ¬ leftP g n x) (b : Below w.heap.size w w') : LfR w g n (.returned (.slice none 0 0)) w' :=
 ⟨_, [], rfl, InV.nil _ _, List.Pairwise.nil, fun x => ⟨fun c => (by cases c), fun c => absurd c (h x)⟩, b⟩
theorem nLefts_no (v : Value) (g : GR) (n : Int) (w : World) (h : GrM w v g) (hno : yo g.1 = false ∨ n < 0 ∨ (g.1.length : Int) ≤ n) :
  Calls Tryz.prog 24 #[v, .int .i64 n] w fun e w' => LfR w g n e w' := by
 have CM := zx (fun W (bW : Below w.heap.size w W) => fMayM_l v g W (h.later bW))
 obtain ⟨a, c, aK, cK, rfl, hp, -⟩ := id h
 have HNO : Hid (∀ x, ¬ leftP g n x) := by
  rintro x ⟨h1, i, p, al, rfl, h2, -⟩
  rcases hno with h3 | h3 | h3
  ·rw [h1] at h3; cases h3
  ·omega
  ·have := (List.getElem?_eq_some_iff.1 h2).1; omega
 obtain ⟨P, K⟩ := g
 simp only at CM hp hno ⊢
 clear h hp
 generalize K.length = nK at *
 generalize hnP : P.length = nP at *
 clear hnP
 cases hg : yo P with
 | false =>
  rw [hg] at CM
  clear hg hno
  go_enter Tryz.func24, Tryz.ntmps24
  go_wp2_with fail
  refine (zy CM _ (Below.new1 _)).mono ?_
  rintro e w1 ⟨rfl, b1⟩
  clear CM
  go_wp2_with fail
  go_ret
  exact LfR.none (zy HNO) (zJ (Below.new1 _) b1)
 | true =>
  rw [hg] at CM hno
  clear hg
  by_cases h0 : n < 0
  ·have bn : decide (n < 0) = true := decide_eq_true h0
   clear h0 hno
   go_enter Tryz.func24, Tryz.ntmps24
   go_wp2_with fail
   refine (zy CM _ (Below.new1 _)).mono ?_
   rintro e w1 ⟨rfl, b1⟩
   clear CM
   go_wp2_with fail
   go_ret
   exact LfR.none (zy HNO) (zJ (Below.new1 _) b1)
  ·have bn : decide (n < 0) = false := decide_eq_false h0
   have bm : decide ((nP : Int) ≤ n) = true := decide_eq_true (by rcases hno with h | h | h; cases h; exact absurd h h0; exact h)
   clear h0 hno
   go_enter Tryz.func24, Tryz.ntmps24
   go_wp2_with fail
   refine (zy CM _ (Below.new1 _)).mono ?_
   rintro e w1 ⟨rfl, b1⟩
   clear CM
   obtain ⟨y0, y1, -, -⟩ := yZ (nkept b1)
   have B1 := zx (zJ (Below.new1 _) b1)
   clear b1
   go_wp2_with fail
   go_ret
   exact LfR.none (zy HNO) (zy B1)
structure LfI (w : World) (b bl k1 : Nat) (E pre0 : List Int) (v : Value) (l : List SY) (ds : List Deferred) (pre : List Int) (W : World) : Prop where
 emp : SetV W b E
 set : SetV W bl (pre0 ++ pre)
 sy : SyL W w.heap.size v l
 bx : W.heap[bl + 1]? = some (boxS bl)
 c1 : W.heap[k1]? = some (boxS b)
 c2 : W.heap[k1 + 1]? = some (boxY v)
 bel : Below w.heap.size w W
 mrk : Marks (bl + 2) W ds
 ml : ∀ D, markD D ∈ ds → D < k1
theorem LfI.below {w W W' : World} {b bl k1 : Nat} {E pre0 pre : List Int} {v : Value} {l : List SY} {ds : List Deferred} (h : LfI w b bl k1 E pre0 v l ds pre W) (k : Below (k1 + 2) W W') (hb : b < bl) (hbl : bl + 2 ≤ k1) (hw : w.heap.size ≤ bl) : LfI w b bl k1 E pre0 v l ds pre W' :=
 ⟨h.emp.later k (by omega), h.set.later k (by omega), h.sy.later (k.mono (by omega)), (k.block _ (by omega)).trans h.bx, (k.block _ (by omega)).trans h.c1, (k.block _ (by omega)).trans h.c2, h.bel.trans (k.mono (by omega)),
  h.mrk.keep ds fun D hD hW => (k.block D (by have := h.ml D hD; omega)).trans hW, h.ml⟩
theorem LfI.put {w W W' : World} {b bl k1 : Nat} {E pre0 pre : List Int} {v : Value} {l : List SY} {ds : List Deferred} {x : Int} (h : LfI w b bl k1 E pre0 v l ds pre W) (hs : SetV W' bl ((pre0 ++ pre) ++ [x])) (k : Bo bl W W') (hb : b < bl) (hbl : bl + 2 ≤ k1) (hw : w.heap.size ≤ bl) (hW : k1 + 2 ≤ W.heap.size) : LfI w b bl k1 E pre0 v l ds (pre ++ [x]) W' := by
 have kb : ∀ g, g < W.heap.size → g ≠ bl → W'.heap[g]? = W.heap[g]? := fun g h1 h2 => k.block g h1 (fun e => h2 (by injection e))
 have kB : Below w.heap.size W W' := ⟨k.os, k.tape, k.output, k.size, fun i hi => kb i (by omega) (by omega)⟩
 exact ⟨h.emp.keep (kb _ (by omega) (by omega)), by rw [← List.append_assoc]; exact hs, h.sy.later kB, (kb _ (by omega) (by omega)).trans h.bx, (kb _ (by omega) (by omega)).trans h.c1, (kb _ (by omega) (by omega)).trans h.c2, h.bel.trans kB,
  h.mrk.keep ds fun D hD hX => (kb D (by have := h.ml D hD; omega) (by have := (h.mrk.lt ds D hD).1; omega)).trans hX, h.ml⟩
theorem InV.off {W X : World} {base base' : Nat} {v : Value} {L : List Int} (h : InV W base v L) (hb : base' ≤ base) (k : ∀ (k : Nat) (o : Obj), W.heap[k]? = some o → (∀ x, o ≠ Obj.deferred x) → X.heap[k]? = some o) : InV X base' v L := by
 refine ⟨h.1, ?_⟩
 rcases h.2 with hn | ⟨g, cap, cur, e, h1, hg, rest⟩
 ·exact .inl hn
 ·exact .inr ⟨g, cap, cur, e, Nat.le_trans hb h1, k g _ hg (fun x c => by cases c), rest⟩
theorem box_cell {W : World} {k b : Nat} (h : W.heap[k]? = some (boxS b)) : W.cell? ⟨k, 0, none⟩ = some (.map (some b)) := by simp [World.cell?, h]
def lfT (g0 : Value) (i : Int) (wz b bz : Nat) (sP : Value) (nP : Int) (pp sA : Value) (nA k : Int) (u8 u9 u36 u37 u38 u39 u40 u41 u42 u43 u44 u45 u46 : Value) : Array Value :=
 #[g0, .int .i64 i, .pointer (some ⟨wz, 0, none⟩), undef, .slice none 0 0, .map (some b), .pointer (some ⟨bz + 1, 0, none⟩), undef, u8, u9, g0, .bool true, .bool false, .bool false, .int .i64 i, .bool false, .bool false, .bool false, .int .i64 i,
  .pointer (some ⟨wz, 0, none⟩), sP, .int .i64 nP, .bool false, .bool false, .pointer (some ⟨wz, 0, none⟩), sP, .map (some b), .map (some bz), .pointer (some ⟨wz, 0, none⟩), sP, .int .i64 i, pp, pp, sA, .int .i64 nA, .int .i64 k, u36, u37, u38, u39, u40, u41, u42, u43, u44, u45, u46, undef, undef, undef]
def LfL (w w2 : World) (b : Nat) (E : List Int) (A : List (List SY)) (g0 : Value) (i : Int) (sP : Value) (nP : Int) (pp sA : Value) (a' : Act) (W' : World) : Prop :=
 ∃ (k : Nat) (ki : Int) (ds : List Deferred) (pre : List Int) (u8 u9 u36 u37 u38 u39 u40 u41 u42 u43 u44 u45 u46 : Value),
  ki = (k : Int) ∧ a' = { tmps := lfT g0 i w.heap.size b w2.heap.size sP nP pp sA (A.length : Nat) ki u8 u9 u36 u37 u38 u39 u40 u41 u42 u43 u44 u45 u46, defers := ds } ∧ k ≤ A.length ∧ Hid (pre = (A.take k).flatMap (kY E)) ∧ pre.length ≤ 40 * k ∧
  Hid (SetV W' b E) ∧ Hid (SetV W' w2.heap.size pre) ∧ Hid (W'.heap[w2.heap.size + 1]? = some (boxS w2.heap.size)) ∧ Hid (Below w.heap.size w W') ∧ w2.heap.size + 2 ≤ W'.heap.size ∧ Hid (Marks (w2.heap.size + 2) W' ds)
attribute [local go_sem] Oper.semAt_some
theorem nLefts_yes (v : Value) (g : GR) (i : Nat) (p : PRD) (w : World) (h : GrM w v g) (hg : yo g.1 = true) (hi : g.1[i]? = some p) :
  Calls Tryz.prog 24 #[v, .int .i64 (i : Int)] w fun e w' => LfR w g (i : Int) e w' := by
 have CM := zx (fun W (bW : Below w.heap.size w W) => fMayM_l v g W (h.later bW))
 obtain ⟨a, c, aK, cK, rfl, hp, -⟩ := id h
 obtain ⟨P, K⟩ := g
 simp only at CM hp hg hi ⊢
 rw [hg] at CM
 obtain ⟨-, h60, h8, h40, ok, hf⟩ := gram_ok hg
 have hmm := @run_makeMap Tryz.prog
 have hx : ∀ args w, (callFunc 91 args).run Tryz.prog w = .ok (.enter 91 args) w := enters_of Tryz.func91 (by kernel_rfl) rfl
 have hpr := hp.prl hf
 have HP := zx hpr
 have CE := zx (fun W (bW : Below w.heap.size w W) => emptyOf_l w.heap.size _ P W ((zy HP).later bW) bW.size h60 h8 ok)
 have hiL := (List.getElem?_eq_some_iff.1 hi).1
 have hmem := List.mem_of_getElem? hi
 have h8p := h8 p hmem
 have H40 := zx (h40 p hmem)
 have HFT := zx (hf p hmem)
 have HLP : Hid (∀ x, leftP (P, K) (i : Int) x ↔ ∃ a ∈ p.1, x ∈ lefL (nuL P) a) := by
  intro x
  constructor
  ·rintro ⟨-, j, q, al, e, hq, ha, hx⟩
   obtain rfl : i = j := by omega
   simp only at hq
   rw [hi] at hq
   injection hq with hq
   subst hq
   exact ⟨al, ha, hx⟩
  ·rintro ⟨al, ha, hx⟩
   exact ⟨hg, i, p, al, rfl, hi, ha, hx⟩
 obtain ⟨a0, c0, e0, hc1, hc2, h3⟩ := hpr
 injection e0 with e1 e2 e3
 subst e1; subst e3
 obtain ⟨gp, off, u, m, x, n', kk, rfl, hgp, q0, q1, q2, hA⟩ := h3 i p hi
 obtain ⟨aA, cA, rfl, hA1, hA2, -⟩ := id hA
 have HA := zx hA
 have Q0 := fun W (bW : Below w.heap.size w W) => (bW.cell (p := ⟨gp, off + 3 * i, none⟩) hgp).trans q0
 unfold maxLen at hc2 hA2
 clear h hp hg h60 h8 h40 ok hf h3 e2 hA hi hmem HP
 have bn : decide ((i : Int) < 0) = false := decide_eq_false (by omega)
 have bm : decide ((P.length : Int) ≤ (i : Int)) = false := decide_eq_false (by omega)
 have i3 : i * 3 = 3 * i := by omega
 generalize K.length = nK at *
 refine (callsIn_wide (n := 8)).1 ?_
 refine callsIn_of_wp_marks Tryz.func24 rfl trivial ?_ rfl
 simp only [Tryz.ntmps24, List.size_toArray, List.length_cons, List.length_nil, Nat.reduceAdd, Nat.reduceSub, Array.replicate_succ, Array.replicate_zero, List.push_toArray, List.append_toArray, List.nil_append, List.cons_append]
 gi_wp2_with fail
 refine ⟨trivial, ?_⟩
 refine (callsIn_wide.2 (zy CM _ (Below.new1 _))).mono ?_
 rintro e w1 ⟨rfl, b1⟩
 clear CM
 have hk1 := nkept b1
 obtain ⟨y0, y1, -, -⟩ := yZ hk1
 have B1 := zx (zJ (Below.new1 _) b1)
 clear b1
 gi_wp2_with fail
 refine ⟨trivial, ?_⟩
 refine (callsIn_wide.2 (zy CE _ (zy B1))).mono ?_
 rintro e w2 ⟨b, E, rfl, hS, hE, hwb, b2⟩
 clear CE y0 y1
 have hk2 := (b2.block _ (Array.getElem?_eq_some_iff.1 hk1).1).trans hk1
 have hlt2 := (Array.getElem?_eq_some_iff.1 hk2).1
 have bz : Below w2.heap.size w2 ((w2.alloc (.map #[] 0)).alloc (boxS w2.heap.size)) := (Below.new1 _).alloc (by simp) _
 have hk3 := (bz.block _ hlt2).trans hk2
 obtain ⟨y0, y1, -, -⟩ := yZ hk3
 have B2 := zx (zJ (zy B1) b2)
 have B3 := zx (zJ (zy B2) bz)
 have s2 := (zy B2).size
 have qq := Q0 _ (zy B3)
 have HS := zx hS
 have HE := zx hE
 clear hS hE b2 hk1 hk2 hk3 B1 Q0 q0 q1 q2
 gi_wp2_with fail
 have hbl := (zy HS).lt
 have Z1 : Hid (SetV ((w2.alloc (.map #[] 0)).alloc (boxS w2.heap.size)) b E) := (zy HS).later bz hbl
 have Z2 : Hid (SetV ((w2.alloc (.map #[] 0)).alloc (boxS w2.heap.size)) w2.heap.size []) := (SetV.new w2).keep ((Below.new1 _).block _ (by simp))
 have Z3 : Hid (((w2.alloc (.map #[] 0)).alloc (boxS w2.heap.size)).heap[w2.heap.size + 1]? = some (boxS w2.heap.size)) := by
  have := heap_alloc_new (w2.alloc (.map #[] 0)) (boxS w2.heap.size)
  rwa [World.size_alloc] at this
 have sz : ((w2.alloc (.map #[] 0)).alloc (boxS w2.heap.size)).heap.size = w2.heap.size + 2 := by simp
 clear bz HS B2 qq y0 y1 hmm
 generalize ((w2.alloc (.map #[] 0)).alloc (boxS w2.heap.size)) = Z at *
 refine wpIn_loop (LfL w w2 b E p.1 (.agg #[.slice (some ⟨gp, off, none⟩) P.length c, .slice aK nK cK]) (i : Int) (.slice (some ⟨gp, off, none⟩) P.length c) (P.length : Nat) (.pointer (some ⟨gp, off + 3 * i, none⟩)) (.slice aA p.1.length cA))
  (fun a' _ => p.1.length - (intOf (a'.tmps.getD 35 undef)).toNat) ?_ ?_
 ·exact ⟨0, 0, [], [], undef, undef, undef, undef, undef, undef, undef, undef, undef, undef, undef, undef, undef, rfl, rfl, Nat.zero_le _, rfl, Nat.zero_le _, Z1, Z2, Z3, B3, by omega, trivial⟩
 ·rintro a' W' ⟨k, ki, ds, pre, u8, u9, u36, u37, u38, u39, u40, u41, u42, u43, u44, u45, u46, rfl, rfl, hk, hO, hlen, hE1, hL, hbx, hB, hsz, hM⟩
  clear Z1 Z2 Z3 B3 sz
  unfold lfT
  by_cases hlt : k < p.1.length
  ·obtain ⟨a', c', e, -, -, h3⟩ := (zy HA).later (zy hB)
   injection e with e1 e2 e3
   subst e1; subst e3
   have hkl : p.1[k]? = some p.1[k] := by simp [hlt]
   obtain ⟨g2, off2, u2, rfl, hg2, r0, hsy⟩ := h3 k p.1[k] hkl
   have hl40 := zy H40 _ (List.getElem_mem hlt)
   have hfl := zx (zy HFT _ (List.getElem_mem hlt))
   have ST : Hid ((p.1.take (k + 1)).flatMap (kY E) = (p.1.take k).flatMap (kY E) ++ kY E p.1[k]) := by
    show _ = _
    rw [List.take_succ_eq_append_getElem hlt, List.flatMap_append]; simp
   obtain ⟨a5, c5, rfl, -⟩ := id hsy
   have HSY := zx hsy
   have CL := zx (lefts_l b a5 (p.1[k]).length c5 W')
   have hll := lef_len (E := E) p.1[k]
   clear h3 hkl e2 hsy
   generalize p.1[k] = l at *
   gi_wp2_with fail
   refine ⟨trivial, ?_⟩
   refine (callsIn_wide.2 (zy CL)).mono ?_
   rintro e w3 ⟨rfl, hw3⟩
   subst hw3
   clear CL
   have sz3 : ((W'.alloc (boxS b)).alloc (boxY (.slice a5 l.length c5))).heap.size = W'.heap.size + 2 := by simp
   have I0 : LfI w b w2.heap.size W'.heap.size E pre (.slice a5 l.length c5) l ds [] ((W'.alloc (boxS b)).alloc (boxY (.slice a5 l.length c5))) := by
    have bb : Below W'.heap.size W' ((W'.alloc (boxS b)).alloc (boxY (.slice a5 l.length c5))) := (Below.new1 _).alloc (by simp) _
    refine ⟨(zy hE1).later bb (zy hE1).lt, by rw [List.append_nil]; exact (zy hL).later bb (zy hL).lt, (zy HSY).later (bb.mono (by omega)), (bb.block _ (by omega)).trans (zy hbx), ?_, ?_, zJ (zy hB) bb, (zy hM).later bb, fun D hD => (Array.getElem?_eq_some_iff.1 ((zy hM).lt ds D hD).2).1⟩
    ·exact ((Below.new1 _).block _ (by simp)).trans (heap_alloc_new W' _)
    ·have := heap_alloc_new (W'.alloc (boxS b)) (boxY (.slice a5 l.length c5))
     rwa [World.size_alloc] at this
   clear hE1 hL hbx hB hM HSY
   gi_wp2_with fail
   generalize hZ3 : ((W'.alloc (boxS b)).alloc (boxY (.slice a5 l.length c5))) = Z3 at *
   clear hZ3
   have HI0 := zx I0
   clear I0
   refine rangeMore (n := 8) (by omega) (gf := 91) (cs := #[.pointer (some ⟨W'.heap.size + 1, 0, none⟩), .pointer (some ⟨W'.heap.size, 0, none⟩)]) rfl hx w2.heap.size (by rw [sz3]; omega) (LfI w b w2.heap.size W'.heap.size E pre (.slice a5 l.length c5) l ds)
    (fun q x => ∃ rest, q ++ x :: rest = kY E l) (fun xs => xs = kY E l) (fun q X X' hi k => hi.below (by rw [sz3] at k; exact k) hbl (by omega) s2) (zy HI0)
    (fun x => { tmps := lfT (.agg #[.slice (some ⟨gp, off, none⟩) P.length c, .slice aK nK cK]) (i : Int) w.heap.size b w2.heap.size (.slice (some ⟨gp, off, none⟩) P.length c) (P.length : Nat) (.pointer (some ⟨gp, off + 3 * i, none⟩)) (.slice (some ⟨g2, off2, none⟩) p.1.length cA) (p.1.length : Nat) (k : Int) (.slice a5 l.length c5) (.int .i64 x) (.bool true) (.pointer (some ⟨g2, off2 + k, none⟩)) (.slice a5 l.length c5) (.map (some b)) (.slice a5 l.length c5) (leftsF W'.heap.size (W'.heap.size + 1)) (.int .i64 x) u43 u44 u45 u46, defers := [] })
    ?assign ?body ?iter ?done
   case assign =>
    intro l' x X K' hK
    unfold lfT at hK
    gi_wp2
    exact hK
   case body =>
    rintro l' q x X hI ⟨rest, hx1⟩ hX
    rw [sz3] at hX
    have hql : q.length < l.length := by
     rw [← hx1, List.length_append, List.length_cons] at hll
     omega
    have hxl : x ∈ kY E l := by rw [← hx1]; simp
    obtain ⟨sx, hsx, -, rfl⟩ := lef_sub hxl
    have CP := zx (nput_l w2.heap.size (pre ++ q) sx.2.2 X hI.set (zy hfl sx hsx) (by rw [List.length_append]; omega))
    have q0 : X.cell? ⟨w2.heap.size + 1, 0, none⟩ = some (.map (some w2.heap.size)) := by simp [World.cell?, hI.bx]
    have HI := zx hI
    clear hI hsx hxl hx1
    generalize sx.2.2 = z at *
    unfold lfT
    gi_wp2_with fail
    refine ⟨trivial, ?_⟩
    refine (CallsIn.inRound l' (callsIn_wide.2 (zy CP))).mono ?_
    rintro e X2 ⟨rfl, hs2, hg2⟩
    gi_wp2_with fail
    exact ⟨hg2, (zy HI).put hs2 hg2 hbl (by omega) s2 hX⟩
   case iter =>
    intro lr X J hs hb' hJI hJb hY h0
    rw [sz3] at hs
    refine (lefts_iter 7 (by omega) lr W'.heap.size (W'.heap.size + 1) b w.heap.size w2.heap.size E (.slice a5 l.length c5) l X J (fun q X1 hj => ?_) hJb (fun q x X1 h1 h2 h3 => hY q x X1 h1 h2 h3) (by omega) h0).mono ?_
    ·have := hJI _ _ hj
     exact ⟨this.emp, this.sy, this.c1, this.c2⟩
    ·rintro e X' ⟨hv, hj⟩
     exact ⟨hv, _, rfl, hj⟩
   case done =>
    intro xs X hE' hI hD'
    subst hE'
    have MK : Hid (Marks (w2.heap.size + 2) X (markD Z3.heap.size :: ds)) := ⟨Z3.heap.size, rfl, by rw [sz3]; omega, hD', fun D' hD2 e => by have := hI.ml D' hD2; rw [sz3] at e; omega, hI.mrk⟩
    have hXs : w2.heap.size + 2 ≤ X.heap.size := by have := (Array.getElem?_eq_some_iff.1 hI.c1).1; omega
    have HI := zx hI
    have NX : Hid (pre ++ kY E l = (p.1.take (k + 1)).flatMap (kY E)) := by
     show _ = _
     rw [zy ST, zy hO]
    clear hI hD' HI0
    gi_wp2_with fail
    refine ⟨⟨k + 1, (k : Int) + 1, markD Z3.heap.size :: ds, pre ++ kY E l, _, _, _, _, _, _, _, _, _, _, _, _, _, by omega, rfl, by omega, NX, by rw [List.length_append]; omega, (zy HI).emp, (zy HI).set, (zy HI).bx, (zy HI).bel, hXs, MK⟩, ?_⟩
    simp [intOf]; omega
  ·obtain rfl : k = p.1.length := by omega
   have q0 : W'.cell? ⟨w2.heap.size + 1, 0, none⟩ = some (.map (some w2.heap.size)) := by
    have := zy hbx
    simp [World.cell?, this]
   have CK := zx (keysN_l w2.heap.size W')
   have bb : Below W'.heap.size W' (W'.alloc (boxS w2.heap.size)) := Below.new1 _
   have CS := zx (sortedN_l w2.heap.size W'.heap.size pre (W'.alloc (boxS w2.heap.size)) ((zy hL).later bb (zy hL).lt) (box_cell (heap_alloc_new W' (boxS w2.heap.size))) (by omega))
   have B4 := zx (zJ (zy hB) bb)
   have M4 := zx ((zy hM).later bb)
   have MEM : Hid (∀ x, x ∈ pre ↔ leftP (P, K) (i : Int) x) := by
    intro x
    rw [zy HLP x, zy hO, List.take_of_length_le (Nat.le_refl _), List.mem_flatMap]
    constructor
    ·rintro ⟨al, ha, hx⟩
     exact ⟨al, ha, by rw [← lef_is (zy HE)]; exact hx⟩
    ·rintro ⟨al, ha, hx⟩
     exact ⟨al, ha, by rw [lef_is (zy HE)]; exact hx⟩
   have s4 : w2.heap.size + 2 ≤ (W'.alloc (boxS w2.heap.size)).heap.size := by simp; omega
   clear hE1 hL hbx hB hM hO HA H40 HFT HLP HE hx
   gi_wp2_with fail
   refine ⟨trivial, ?_⟩
   refine (callsIn_wide.2 (zy CK)).mono ?_
   rintro e w5 ⟨rfl, hw5⟩
   subst hw5
   gi_wp2_with fail
   refine ⟨trivial, ?_⟩
   refine (callsIn_wide.2 (zy CS)).mono ?_
   rintro e w6 ⟨v6, L, rfl, hp6, hm6, hv6, b6⟩
   have M6 := (zy M4).later b6
   have B6 := zJ (zy B4) b6
   have s6 := b6.size
   have H6 := zx (And.intro hp6 (And.intro hm6 hv6))
   clear CK CS hp6 hm6 hv6 b6
   gi_wp2_with fail
   refine Marks.leave _ _ M6 (by omega) fun X bX kX => ?_
   obtain ⟨hp6, hm6, hv6⟩ := zy H6
   refine ⟨_, results_tmp rfl _ _ _, v6, L, rfl, hv6.off (by omega) kX, hp6, fun x => (hm6 x).trans (zy MEM x), B6.trans (bX.mono (by omega))⟩
def eqG {α : Type} (e : α → α → Bool) : List α → List α → Bool
 | [], [] => true
 | x :: l, y :: m => e x y && eqG e l m
 | _, _ => false
theorem eqG_drop {α : Type} (e : α → α → Bool) {l m : List α} {k : Nat} (h : k < l.length) (h2 : k < m.length) : eqG e (l.drop k) (m.drop k) = (e l[k] m[k] && eqG e (l.drop (k + 1)) (m.drop (k + 1))) := by
 rw [List.drop_eq_getElem_cons h, List.drop_eq_getElem_cons h2]; rfl
theorem eqG_len {α : Type} (e : α → α → Bool) : ∀ (l m : List α), l.length ≠ m.length → eqG e l m = false := by
 intro l
 induction l with
 | nil => intro m h; cases m with
  | nil => simp at h
  | cons => rfl
 | cons x l ih =>
  intro m h
  cases m with
  | nil => rfl
  | cons y m => unfold eqG; rw [ih m (by simpa using h)]; simp
theorem eqG_iff {α : Type} (e : α → α → Bool) (he : ∀ x y, e x y = true ↔ x = y) : ∀ (l m : List α), eqG e l m = true ↔ l = m := by
 intro l
 induction l with
 | nil => intro m; cases m <;> simp [eqG]
 | cons x l ih => intro m; cases m <;> simp [eqG, he, ih]
def CeV {α : Type} (enc : α → Value) (w : World) (v : Value) (l : List α) : Prop := ∃ a c, v = .slice a l.length c ∧ l.length ≤ c ∧ c ≤ maxLen ∧ ∀ j b, l[j]? = some b → ∃ g off, a = some ⟨g, off, none⟩ ∧ g < w.heap.size ∧ w.cell? ⟨g, off + j, none⟩ = some (enc b)
theorem CeV.later {α : Type} {enc : α → Value} {w X : World} {v : Value} {l : List α} (h : CeV enc w v l) (k : Below w.heap.size w X) : CeV enc X v l := by
 obtain ⟨a, c, e, h1, h2, h3⟩ := h
 refine ⟨a, c, e, h1, h2, fun j b hj => ?_⟩
 obtain ⟨g, off, ha, hg, hc⟩ := h3 j b hj
 exact ⟨g, off, ha, Nat.lt_of_lt_of_le hg k.size, (k.cell (p := ⟨g, off + j, none⟩) hg).trans hc⟩
theorem ceOwn {α : Type} {enc : α → Value} {w : World} {base : Nat} {t : TypeId} {v : Value} {l : List α} (h : w.ownsRow base t 1 v l.length (l.map enc)) : CeV enc w v l := by
 rcases id h.2 with ⟨rfl, h0⟩ | ⟨g, cap, cur, rfl, hb, hg, hn, hm, hsz, ht⟩
 ·refine ⟨none, 0, by rw [h0], by omega, Nat.zero_le _, fun j b hj => ?_⟩
  have := (List.getElem?_eq_some_iff.1 hj).1; omega
 ·refine ⟨_, cap, rfl, hn, hm, fun j b hj => ⟨g, 0, rfl, (Array.getElem?_eq_some_iff.1 hg).1, ?_⟩⟩
  have := World.ownsRow.cells h (g := g) rfl j (enc b) (by rw [List.getElem?_map, hj]; rfl)
  rwa [Addr.add_lit] at this
theorem ceNew {α : Type} {enc : α → Value} {w : World} {g : Nat} {t : TypeId} {l : List α} (h : w.heap[g]? = some (.cells (l.map enc).toArray t)) (hl : l.length ≤ 1000) : CeV enc w (.slice (some ⟨g, 0, none⟩) l.length l.length) l :=
 ⟨_, l.length, rfl, Nat.le_refl _, by unfold maxLen; omega, fun j b hj => ⟨g, 0, rfl, (Array.getElem?_eq_some_iff.1 h).1, by simp [World.cell?, h, hj]⟩⟩
theorem bools_l (v1 v2 : Value) (l m : List Bool) (w : World) (h1 : CeV Value.bool w v1 l) (h2 : CeV Value.bool w v2 m) :
  Calls Tryz.prog 20 #[v1, v2] w fun e w' => e = .returned (.bool (eqG (fun x y => x == y) l m)) ∧ Below w.heap.size w w' := by
 obtain ⟨a, c, rfl, hc1, hc2, h3⟩ := h1
 obtain ⟨a', c', rfl, hd1, hd2, h3'⟩ := h2
 unfold maxLen at hc2 hd2
 have H1 := zx h3
 have H2 := zx h3'
 clear h3 h3'
 by_cases hl : l.length = m.length
 ·have bl : ((l.length : Int) != (m.length : Int)) = false := by simp [hl]
  have HL := zx hl
  clear hl
  go_enter Tryz.func20, Tryz.ntmps20
  go_wp2_with fail
  go_loopw [5] (fun i wr => ∃ (j : Nat), j ≤ l.length ∧ i = .int .i64 (j : Int) ∧ Hid (eqG (fun x y => x == y) l m = eqG (fun x y => x == y) (l.drop j) (m.drop j)) ∧ Hid (Below w.heap.size w wr)) (fun i _ => l.length - (intOf i).toNat)
  case atStart => exact ⟨0, Nat.zero_le _, rfl, rfl, Below.refl _ _⟩
  case round =>
   obtain ⟨j, hj, rfl, hO, hB⟩ := hrel
   by_cases hlt : j < l.length
   ·have hlt2 : j < m.length := by rw [← zy HL]; exact hlt
    obtain ⟨g, off, rfl, hg, q0⟩ := zy H1 j l[j] (by simp [hlt])
    obtain ⟨g', off', rfl, hg', q1⟩ := zy H2 j m[j] (by simp [hlt2])
    have ST := zx (eqG_drop (fun x y => x == y) hlt hlt2)
    have Q0 : ∀ d, (wr.drewN d).cell? ⟨g, off + j, none⟩ = some (Value.bool l[j]) := fun d => ((zy hB).cell (p := ⟨g, off + j, none⟩) hg).trans q0
    have Q1 : ∀ d, (wr.drewN d).cell? ⟨g', off' + j, none⟩ = some (Value.bool m[j]) := fun d => ((zy hB).cell (p := ⟨g', off' + j, none⟩) hg').trans q1
    have R0 := Q0 0
    have R1 := Q1 0
    simp only [World.drewN_zero] at R0 R1
    clear q0 q1
    generalize l[j] = x at *
    generalize m[j] = y at *
    by_cases hxy : x = y
    ·have bn : (x != y) = false := by simp [hxy]
     have be : (x == y) = true := by simp [hxy]
     have NX : Hid (eqG (fun x y => x == y) l m = eqG (fun x y => x == y) (l.drop (j + 1)) (m.drop (j + 1))) := by
      show _ = _
      rw [zy hO, zy ST, hxy]; simp
     clear hxy hO ST
     go_wp2_with fail
     go_quiet (fail)
     go_wp2_with fail
     exact ⟨⟨j + 1, by omega, by simp, NX, (zy hB).trans zk⟩, by simp [intOf]; omega⟩
    ·have bn : (x != y) = true := by simpa using hxy
     have be : (x == y) = false := by simpa using hxy
     have NX : Hid (eqG (fun x y => x == y) l m = false) := by
      show _ = _
      have e : (x == y) = false := by simpa using hxy
      rw [zy hO, zy ST, e]; rfl
     clear hxy hO ST
     go_wp2_with fail
     go_quiet (fail)
     go_wp2_with fail
     go_ret
     exact ⟨zZ (zy NX).symm, (zy hB).trans zk⟩
   ·obtain rfl : j = l.length := by omega
    have NX : Hid (eqG (fun x y => x == y) l m = true) := by
     show _ = _
     rw [zy hO, List.drop_eq_nil_of_le (Nat.le_refl _), List.drop_eq_nil_of_le (by rw [zy HL]; exact Nat.le_refl _)]; rfl
    go_wp2_with fail
    go_ret
    exact ⟨zZ (zy NX).symm, zy hB⟩
 ·have bl : ((l.length : Int) != (m.length : Int)) = true := by rw [bne_iff_ne]; omega
  have NX := zx (eqG_len (fun x y => x == y) l m hl)
  clear hl H1 H2
  generalize l.length = nl at *
  generalize m.length = nm at *
  go_enter Tryz.func20, Tryz.ntmps20
  go_wp2_with fail
  go_ret
  exact ⟨zZ (zy NX).symm, Below.refl _ _⟩
theorem ints_l (v1 v2 : Value) (l m : List Int) (w : World) (h1 : CeV (Value.int .i64) w v1 l) (h2 : CeV (Value.int .i64) w v2 m) :
  Calls Tryz.prog 23 #[v1, v2] w fun e w' => e = .returned (.bool (eqG (fun x y => x == y) l m)) ∧ Below w.heap.size w w' := by
 obtain ⟨a, c, rfl, hc1, hc2, h3⟩ := h1
 obtain ⟨a', c', rfl, hd1, hd2, h3'⟩ := h2
 unfold maxLen at hc2 hd2
 have H1 := zx h3
 have H2 := zx h3'
 clear h3 h3'
 by_cases hl : l.length = m.length
 ·have bl : ((l.length : Int) != (m.length : Int)) = false := by simp [hl]
  have HL := zx hl
  clear hl
  go_enter Tryz.func23, Tryz.ntmps23
  go_wp2_with fail
  go_loopw [5] (fun i wr => ∃ (j : Nat), j ≤ l.length ∧ i = .int .i64 (j : Int) ∧ Hid (eqG (fun x y => x == y) l m = eqG (fun x y => x == y) (l.drop j) (m.drop j)) ∧ Hid (Below w.heap.size w wr)) (fun i _ => l.length - (intOf i).toNat)
  case atStart => exact ⟨0, Nat.zero_le _, rfl, rfl, Below.refl _ _⟩
  case round =>
   obtain ⟨j, hj, rfl, hO, hB⟩ := hrel
   by_cases hlt : j < l.length
   ·have hlt2 : j < m.length := by rw [← zy HL]; exact hlt
    obtain ⟨g, off, rfl, hg, q0⟩ := zy H1 j l[j] (by simp [hlt])
    obtain ⟨g', off', rfl, hg', q1⟩ := zy H2 j m[j] (by simp [hlt2])
    have ST := zx (eqG_drop (fun x y => x == y) hlt hlt2)
    have Q0 : ∀ d, (wr.drewN d).cell? ⟨g, off + j, none⟩ = some ((Value.int .i64) l[j]) := fun d => ((zy hB).cell (p := ⟨g, off + j, none⟩) hg).trans q0
    have Q1 : ∀ d, (wr.drewN d).cell? ⟨g', off' + j, none⟩ = some ((Value.int .i64) m[j]) := fun d => ((zy hB).cell (p := ⟨g', off' + j, none⟩) hg').trans q1
    have R0 := Q0 0
    have R1 := Q1 0
    simp only [World.drewN_zero] at R0 R1
    clear q0 q1
    generalize l[j] = x at *
    generalize m[j] = y at *
    by_cases hxy : x = y
    ·have bn : (x != y) = false := by simp [hxy]
     have be : (x == y) = true := by simp [hxy]
     have NX : Hid (eqG (fun x y => x == y) l m = eqG (fun x y => x == y) (l.drop (j + 1)) (m.drop (j + 1))) := by
      show _ = _
      rw [zy hO, zy ST, hxy]; simp
     clear hxy hO ST
     go_wp2_with fail
     go_quiet (fail)
     go_wp2_with fail
     exact ⟨⟨j + 1, by omega, by simp, NX, (zy hB).trans zk⟩, by simp [intOf]; omega⟩
    ·have bn : (x != y) = true := by simpa using hxy
     have be : (x == y) = false := by simpa using hxy
     have NX : Hid (eqG (fun x y => x == y) l m = false) := by
      show _ = _
      have e : (x == y) = false := by simpa using hxy
      rw [zy hO, zy ST, e]; rfl
     clear hxy hO ST
     go_wp2_with fail
     go_quiet (fail)
     go_wp2_with fail
     go_ret
     exact ⟨zZ (zy NX).symm, (zy hB).trans zk⟩
   ·obtain rfl : j = l.length := by omega
    have NX : Hid (eqG (fun x y => x == y) l m = true) := by
     show _ = _
     rw [zy hO, List.drop_eq_nil_of_le (Nat.le_refl _), List.drop_eq_nil_of_le (by rw [zy HL]; exact Nat.le_refl _)]; rfl
    go_wp2_with fail
    go_ret
    exact ⟨zZ (zy NX).symm, zy hB⟩
 ·have bl : ((l.length : Int) != (m.length : Int)) = true := by rw [bne_iff_ne]; omega
  have NX := zx (eqG_len (fun x y => x == y) l m hl)
  clear hl H1 H2
  generalize l.length = nl at *
  generalize m.length = nm at *
  go_enter Tryz.func23, Tryz.ntmps23
  go_wp2_with fail
  go_ret
  exact ⟨zZ (zy NX).symm, Below.refl _ _⟩
theorem aw9_bytes : U.zq aw9 := by
 intro z hz
 simp [aw9] at hz
 omega
theorem aw9_all : xw aw9g = [false, true, false] := by kernel_rfl
theorem aw9_emp : emptyB aw9g [] = true := by kernel_rfl
theorem rise_eq : ∀ {l m : List Int}, l.Pairwise (· < ·) → m.Pairwise (· < ·) → (∀ x, x ∈ l ↔ x ∈ m) → l = m := by
 intro l
 induction l with
 | nil =>
  intro m _ _ h
  cases m with
  | nil => rfl
  | cons y m => exact absurd ((h y).2 List.mem_cons_self) (by simp)
 | cons x l ih =>
  intro m hl hm h
  cases m with
  | nil => exact absurd ((h x).1 List.mem_cons_self) (by simp)
  | cons y m =>
   obtain ⟨hx, hl'⟩ := List.pairwise_cons.1 hl
   obtain ⟨hy, hm'⟩ := List.pairwise_cons.1 hm
   have e : x = y := by
    rcases List.mem_cons.1 ((h x).1 List.mem_cons_self) with h1 | h1
    ·exact h1
    ·rcases List.mem_cons.1 ((h y).2 List.mem_cons_self) with h2 | h2
     ·exact h2.symm
     ·have := hx y h2; have := hy x h1; omega
   subst e
   congr 1
   refine ih hl' hm' fun z => ?_
   have hz := h z
   simp only [List.mem_cons] at hz
   constructor
   ·intro h1
    rcases hz.1 (.inr h1) with h2 | h2
    ·subst h2; have := hx z h1; omega
    ·exact h2
   ·intro h1
    rcases hz.2 (.inr h1) with h2 | h2
    ·subst h2; have := hy z h1; omega
    ·exact h2
theorem aw9_lef {L : List Int} (h1 : L.Pairwise (· < ·)) (h2 : ∀ x, x ∈ L ↔ leftP aw9g 0 x) : L = [1, 2] := by
 refine rise_eq h1 (by simp) fun x => (h2 x).trans ?_
 have hn : nuL aw9g.1 = [false, true, false] := by kernel_rfl
 unfold leftP
 rw [hn]
 constructor
 ·rintro ⟨-, i, p, a, e, hp, ha, hx⟩
  obtain rfl : i = 0 := by omega
  have hp' : p = ([[(2, [], 1), (2, [], 2)]], 0, []) := by simpa [aw9g] using hp.symm
  subst hp'
  simp at ha
  subst ha
  have e2 : lefL [false, true, false] [(2, [], 1), (2, [], 2)] = [1, 2] := by decide
  rw [e2] at hx
  exact hx
 ·intro hx
  refine ⟨aw9_may, 0, ([[(2, [], 1), (2, [], 2)]], 0, []), [(2, [], 1), (2, [], 2)], rfl, rfl, by simp, ?_⟩
  have e2 : lefL [false, true, false] [(2, [], 1), (2, [], 2)] = [1, 2] := by decide
  rw [e2]; exact hx
theorem awake9_l (w : World) : Calls Tryz.prog 18 #[] w fun e w' => e = .returned (.bool true) ∧ Below w.heap.size w w' := by
 have CF := zx (fun W => file_any ⟨#[97, 32, 61, 32, 98, 32, 99, 59, 32, 98, 32, 61, 32, 59, 32, 99, 32, 61, 32, 34, 120, 34, 59]⟩ aw9 (St.of aw9_bytes) (by show 23 ≤ 100000000; omega) W)
 go_enter Tryz.func18, Tryz.ntmps18
 go_wp2_with fail
 refine (zy CF _).mono ?_
 clear CF
 rintro e w1 ⟨fr, b1⟩
 obtain ⟨v1, rfl, fv⟩ := file_is fr aw9_file
 have CO := zx (fun W (bW : Below w1.heap.size w1 W) => of_file 4 (w := W) (D := New w w1) (fv.kept (fun g hg => ⟨hg, bW.block g hg.2⟩) (KR.of bW)) (fun g hg => Nat.lt_of_lt_of_le hg.2 bW.size) (fok_yes aw9_fok))
 obtain ⟨aK, cK, aR, cR, rfl, -⟩ := fv
 have el : ((aw9.length : Nat) : Int) = 23 := rfl
 have n0 : aw9f.1.length = 0 := rfl
 have n1 : aw9f.2.length = 3 := rfl
 rw [n0, n1] at CO ⊢
 rw [el]
 clear fr n0 n1 el
 have HB1 := zx b1
 have s1 := b1.size
 clear b1
 go_wp2_with fail
 refine (zy CO _ (Below.new1 _)).mono ?_
 clear CO
 rintro e w2 ⟨or, b2⟩
 obtain ⟨v2, rfl, gv⟩ := of_is or aw9_flat
 have B2 : Below w1.heap.size w1 w2 := zJ (Below.new1 _) b2
 have HB2 := zx (zJ (zy HB1) B2)
 have gm := grM_of gv (fun a n c l h => ⟨h.2.1, h.2.2.1⟩)
 have CA := zx (fun W (bW : Below w2.heap.size w2 W) => nAll_l v2 aw9g W (gm.later bW))
 have CL := zx (fun W (bW : Below w2.heap.size w2 W) => nLefts_yes v2 aw9g 0 ([[(2, [], 1), (2, [], 2)]], 0, []) W (gm.later bW) aw9_may rfl)
 have CE := zx (fun W (bW : Below w2.heap.size w2 W) => nEmpty_l v2 nilR aw9g [] W (gm.later bW) (SyL.nil _ _))
 rw [aw9_all] at CA
 rw [aw9_emp] at CE
 obtain ⟨a, c, aK2, cK2, rfl, -⟩ := gm
 have m1 : aw9g.1.length = 3 := rfl
 have m0 : aw9g.2.length = 0 := rfl
 rw [m0, m1] at CA CL CE ⊢
 clear or gv b2 B2 m0 m1
 rw [show ((0 : Nat) : Int) = 0 from rfl] at CL
 go_wp2_with fail
 refine (zy CA _ (Below.new1 _)).mono ?_
 clear CA
 rintro e w3 ⟨v3, rfl, hv3, b3⟩
 have hg3 := nkept b3
 have B3 := zx (zJ (Below.new1 (w := w2) _) b3)
 have ce3 := ceOwn (enc := Value.bool) hv3
 obtain ⟨a3, c3, rfl, -⟩ := id ce3
 have l3 : ([false, true, false] : List Bool).length = 3 := rfl
 rw [l3] at ce3 ⊢
 have bn3 : Below w3.heap.size w3 (w3.alloc (.cells #[.bool false, .bool true, .bool false] 4)) := Below.new1 _
 have CB := zx (bools_l _ _ [false, true, false] [false, true, false] (w3.alloc (.cells #[.bool false, .bool true, .bool false] 4)) (ce3.later bn3) (ceNew (enc := Value.bool) (l := [false, true, false]) (heap_alloc_new w3 _) (by simp)))
 rw [show eqG (fun x y => x == y) [false, true, false] [false, true, false] = true from rfl, l3] at CB
 clear ce3 hv3 l3 b3
 go_wp2_with fail
 refine (zy CB).mono ?_
 clear CB
 rintro e w4 ⟨rfl, b4⟩
 have hg4 : w4.heap[w2.heap.size]? = some (.cells #[.slice a 3 c, .slice aK2 0 cK2] 32) := ((zJ bn3 b4).block _ (Array.getElem?_eq_some_iff.1 hg3).1).trans hg3
 have B4 := zx (zJ (zy B3) (zJ bn3 b4))
 obtain ⟨y0, y1, -, -⟩ := yZ hg4
 clear hg3 bn3 b4 B3
 go_wp2_with fail
 refine (zy CL _ (zy B4)).mono ?_
 clear CL
 rintro e w5 ⟨v5, L, rfl, hv5, hp5, hm5, b5⟩
 obtain rfl := aw9_lef hp5 hm5
 have ce5 := ceOwn (enc := Value.int .i64) hv5
 obtain ⟨a5, c5, rfl, -⟩ := id ce5
 have l5 : ([1, 2] : List Int).length = 2 := rfl
 rw [l5] at ce5 ⊢
 have hg5 := (b5.block _ (Array.getElem?_eq_some_iff.1 hg4).1).trans hg4
 have B5 := zx (zJ (zy B4) b5)
 have bn5 : Below w5.heap.size w5 (w5.alloc (.cells #[.int .i64 1, .int .i64 2] 3)) := Below.new1 _
 have CI := zx (ints_l _ _ [1, 2] [1, 2] (w5.alloc (.cells #[.int .i64 1, .int .i64 2] 3)) (ce5.later bn5) (ceNew (enc := Value.int .i64) (l := [1, 2]) (heap_alloc_new w5 _) (by simp)))
 rw [show eqG (fun x y => x == y) ([1, 2] : List Int) [1, 2] = true from rfl, l5] at CI
 clear ce5 hv5 hp5 hm5 l5 b5 y0 y1 hg4 B4
 go_wp2_with fail
 refine (zy CI).mono ?_
 clear CI
 rintro e w6 ⟨rfl, b6⟩
 have hg6 := ((zJ bn5 b6).block _ (Array.getElem?_eq_some_iff.1 hg5).1).trans hg5
 have B6 := zx (zJ (zy B5) (zJ bn5 b6))
 obtain ⟨y0, y1, -, -⟩ := yZ hg6
 clear hg5 bn5 b6 B5 hg6
 go_wp2_with fail
 refine (zy CE _ (zy B6)).mono ?_
 clear CE
 rintro e w7 ⟨rfl, b7⟩
 go_wp2_with fail
 go_ret
 exact ⟨rfl, zJ (zy HB2) (zJ (zy B6) b7)⟩
def isS (x : Int) (s : SY) : Bool := s.1 == 2 && s.2.2 == x
structure LfF (w : World) (kg : Nat) (gp off i nP c nK cK : Nat) (aK aA : Option Addr) (cA : Nat) (A : List (List SY)) (aL : Option Addr) (cL : Nat) (L : List Int) : Prop where
 bx : w.cell? ⟨kg, 0, none⟩ = some (.slice (some ⟨gp, off, none⟩) nP c)
 ps : w.cell? ⟨gp, off + 3 * i, none⟩ = some (.slice aA A.length cA)
 al : AltM w (.slice aA A.length cA) A
 le : CeV (Value.int .i64) w (.slice aL L.length cL) L
theorem LfF.later {w X : World} {kg gp off i nP c nK cK : Nat} {aK aA : Option Addr} {cA : Nat} {A : List (List SY)} {aL : Option Addr} {cL : Nat} {L : List Int} (h : LfF w kg gp off i nP c nK cK aK aA cA A aL cL L) (k : Below w.heap.size w X) : LfF X kg gp off i nP c nK cK aK aA cA A aL cL L :=
 ⟨(k.cell (p := ⟨kg, 0, none⟩) (zY h.bx)).trans h.bx, (k.cell (p := ⟨gp, off + 3 * i, none⟩) (zY h.ps)).trans h.ps, h.al.later k, h.le.later k⟩
theorem AltM.get {w : World} {a : Option Addr} {n c : Nat} {A : List (List SY)} (h : AltM w (.slice a n c) A) {k : Nat} {l : List SY} (hk : A[k]? = some l) : ∃ g off x cc, a = some ⟨g, off, none⟩ ∧ g < w.heap.size ∧ w.cell? ⟨g, off + k, none⟩ = some (.slice x l.length cc) ∧ SyM w (.slice x l.length cc) l ∧ l.length ≤ cc ∧ cc ≤ maxLen := by
 obtain ⟨a', c', e, -, -, h3⟩ := h
 injection e with e1 e2 e3
 subst e1
 obtain ⟨g, off, u, ha, hg, q0, hs⟩ := h3 k l hk
 obtain ⟨x, cc, rfl, h1, h2, -⟩ := id hs
 exact ⟨g, off, x, cc, ha, hg, q0, hs, h1, h2⟩
theorem SyM.get {w : World} {a : Option Addr} {n c : Nat} {l : List SY} (h : SyM w (.slice a n c) l) {j : Nat} {s : SY} (hj : l[j]? = some s) : ∃ g off, a = some ⟨g, off, none⟩ ∧ g < w.heap.size ∧ w.cell? ⟨g, off + 3 * j, none⟩ = some (.int .i64 s.1) ∧ w.cell? ⟨g, off + 3 * j + 2, none⟩ = some (.int .i64 s.2.2) := by
 obtain ⟨a', c', e, -, -, h3⟩ := h
 injection e with e1 e2 e3
 subst e1
 obtain ⟨g, off, x, k, ha, hg, q0, q1, q2, -⟩ := h3 j s hj
 exact ⟨g, off, ha, hg, q0, q2⟩
theorem CeV.get {α : Type} {enc : α → Value} {w : World} {a : Option Addr} {n c : Nat} {l : List α} (h : CeV enc w (.slice a n c) l) {j : Nat} {x : α} (hj : l[j]? = some x) : ∃ g off, a = some ⟨g, off, none⟩ ∧ g < w.heap.size ∧ w.cell? ⟨g, off + j, none⟩ = some (enc x) := by
 obtain ⟨a', c', e, -, -, h3⟩ := h
 injection e with e1 e2 e3
 subst e1
 exact h3 j x hj
theorem nulA_drop {is : List Bool} {l : List SY} {j : Nat} (h : j < l.length) : qa is (l.drop j) = (nulS is l[j] && qa is (l.drop (j + 1))) := by
 unfold qa
 rw [List.drop_eq_getElem_cons h]; rfl
theorem only_l (v1 v2 : Value) (is : List Bool) (l : List SY) (w : World) (h1 : CeV Value.bool w v1 is) (h2 : SyM w v2 l) :
  Calls Tryz.prog 49 #[v1, v2] w fun e w' => e = .returned (.bool (qa is l)) ∧ Below w.heap.size w w' := by
 obtain ⟨a, c, rfl, hc1, hc2, h3⟩ := id h1
 obtain ⟨a', c', rfl, hd1, hd2, h3'⟩ := id h2
 unfold maxLen at hc2 hd2
 have H1 := zx h1
 have H2 := zx h2
 clear h1 h2 h3 h3'
 go_enter Tryz.func49, Tryz.ntmps49
 go_wp2_with fail
 go_loopw [5] (fun i wr => ∃ (j : Nat), j ≤ l.length ∧ i = .int .i64 (j : Int) ∧ Hid (qa is l = qa is (l.drop j)) ∧ Hid (Below w.heap.size w wr)) (fun i _ => l.length - (intOf i).toNat)
 case atStart => exact ⟨0, Nat.zero_le _, rfl, rfl, Below.refl _ _⟩
 case round =>
  obtain ⟨j, hj, rfl, hO, hB⟩ := hrel
  by_cases hlt : j < l.length
  ·have hjl : l[j]? = some l[j] := by simp [hlt]
   obtain ⟨gS, oS, rfl, hgS, s0, s2⟩ := (zy H2).get hjl
   have j3 : j * 3 = 3 * j := by omega
   have ST := zx (nulA_drop (is := is) hlt)
   clear hjl
   generalize l[j] = s at *
   obtain ⟨sk, sr, sn⟩ := s
   simp only at s0 s2
   have kkd : ∀ d, (wr.drewN d).cell? ⟨gS, oS + 3 * j, none⟩ = some (.int .i64 sk) := fun d => ((zy hB).cell (p := ⟨gS, oS + 3 * j, none⟩) hgS).trans s0
   have kk := kkd 0
   have nnd : ∀ d, (wr.drewN d).cell? ⟨gS, oS + 3 * j + 2, none⟩ = some (.int .i64 sn) := fun d => ((zy hB).cell (p := ⟨gS, oS + 3 * j + 2, none⟩) hgS).trans s2
   have nn := nnd 0
   simp only [World.drewN_zero] at kk nn
   clear s0 s2
   by_cases hk : sk = 2
   ·subst hk
    by_cases h0 : sn < 0
    ·have b0 : decide (sn < 0) = true := decide_eq_true h0
     have FIN : Hid (qa is l = false) := by
      show _ = _
      rw [zy hO, zy ST]
      unfold nulS
      simp [show ¬ (0 ≤ sn) by omega]
     clear hO ST h0
     go_wp2_with fail
     all_goals try go_quiet (fail)
     all_goals try go_wp2_with fail
     go_ret
     first | exact ⟨zZ (zy FIN).symm, zy hB⟩ | exact ⟨zZ (zy FIN).symm, (zy hB).trans zk⟩
    ·obtain ⟨m, rfl⟩ := Int.eq_ofNat_of_zero_le (show 0 ≤ sn by omega)
     have b0 : decide ((m : Int) < 0) = false := decide_eq_false h0
     by_cases hm : is.length ≤ m
     ·have b1 : decide ((is.length : Int) ≤ (m : Int)) = true := decide_eq_true (by omega)
      have b2 : decide (is.length ≤ m) = true := decide_eq_true hm
      have FIN : Hid (qa is l = false) := by
       show _ = _
       rw [zy hO, zy ST]
       unfold nulS
       simp only [Int.toNat_natCast]
       rw [List.getD_eq_getElem?_getD, List.getElem?_eq_none hm]; simp
      clear hO ST h0 hm
      go_wp2_with fail
      all_goals try go_quiet (fail)
      all_goals try go_wp2_with fail
      go_ret
      first | exact ⟨zZ (zy FIN).symm, zy hB⟩ | exact ⟨zZ (zy FIN).symm, (zy hB).trans zk⟩
     ·have b1 : decide ((is.length : Int) ≤ (m : Int)) = false := decide_eq_false (by omega)
      have b2 : decide (is.length ≤ m) = false := decide_eq_false hm
      obtain ⟨b, hmi⟩ : ∃ b, is[m]? = some b := ⟨is[m], by simp⟩
      obtain ⟨gI, oI, rfl, hgI, i0⟩ := (zy H1).get hmi
      have ST2 : Hid (qa is ((l.drop j)) = (b && qa is (l.drop (j + 1)))) := by
       show _ = _
       rw [zy ST]
       unfold nulS
       simp only [Int.toNat_natCast]
       rw [List.getD_eq_getElem?_getD, hmi]; simp
      have hml : m < is.length := by omega
      clear hmi hm h0 ST
      have iid : ∀ d, (wr.drewN d).cell? ⟨gI, oI + m, none⟩ = some (.bool b) := fun d => ((zy hB).cell (p := ⟨gI, oI + m, none⟩) hgI).trans i0
      have ii := iid 0
      simp only [World.drewN_zero] at ii
      clear i0
      cases b with
      | false =>
       have FIN : Hid (qa is l = false) := by
        show _ = _
        rw [zy hO, zy ST2]; rfl
       clear hO ST2
       go_wp2_with fail
       all_goals try go_quiet (fail)
       all_goals try go_wp2_with fail
       go_ret
       first | exact ⟨zZ (zy FIN).symm, zy hB⟩ | exact ⟨zZ (zy FIN).symm, (zy hB).trans zk⟩
      | true =>
       have NX : Hid (qa is l = qa is (l.drop (j + 1))) := by
        show _ = _
        rw [zy hO, zy ST2]; rfl
       clear hO ST2
       go_wp2_with fail
       all_goals try go_quiet (fail)
       all_goals try go_wp2_with fail
       first | exact ⟨⟨j + 1, by omega, by simp, NX, hB⟩, by simp [intOf]; omega⟩ | exact ⟨⟨j + 1, by omega, by simp, NX, (zy hB).trans zk⟩, by simp [intOf]; omega⟩
   ·have bk : (sk != 2) = true := by simp [hk]
    have bk2 : (sk == 2) = false := by simp [hk]
    have FIN : Hid (qa is l = false) := by
     show _ = _
     rw [zy hO, zy ST]
     unfold nulS
     simp [hk]
    clear hO ST hk
    go_wp2_with fail
    all_goals try go_quiet (fail)
    all_goals try go_wp2_with fail
    go_ret
    first | exact ⟨zZ (zy FIN).symm, zy hB⟩ | exact ⟨zZ (zy FIN).symm, (zy hB).trans zk⟩
  ·obtain rfl : j = l.length := by omega
   have FIN : Hid (qa is l = true) := by
    show _ = _
    rw [zy hO, List.drop_eq_nil_of_le (Nat.le_refl _)]; rfl
   clear hO
   go_wp2_with fail
   go_ret
   exact ⟨zZ (zy FIN).symm, zy hB⟩
theorem gramB_no {P : List PRD} {p : PRD} (hp : p ∈ P) (h : qj p P.length = false) : yo P = false := by
 unfold yo
 have : (P.all fun p => qj p P.length) = false := by
  rw [Bool.eq_false_iff]; intro c; rw [List.all_eq_true] at c; rw [c p hp] at h; cases h
 rw [this]; simp
theorem gramB_yes {P : List PRD} (h : (P.all fun p => qj p P.length) = true) : yo P = (decide (1 ≤ P.length) && decide (P.length ≤ 60)) := by
 unfold yo; rw [h]; simp
def altB (many : Int) (l : List SY) : Bool := decide (l.length ≤ 40) && l.all fun s => jJ s many
theorem prodB_alts {p : PRD} {many : Int} (h1 : 1 ≤ p.1.length) (h8 : p.1.length ≤ 8) (h0 : 0 ≤ p.2.1) (h63 : p.2.1 ≤ 63) (hm : G.zQ p.2.2 = true) : qj p many = p.1.all (altB many) := by
 unfold qj YK
 rw [hm]
 simp only [h1, h8, h0, h63, decide_true, Bool.true_and]
 rw [Bool.eq_iff_iff]
 simp only [Bool.and_eq_true, Bool.not_eq_true', List.any_eq_false, List.all_eq_true, altB, longB, decide_eq_true_eq]
 constructor
 ·rintro ⟨a, b⟩ l hl
  have := a l hl
  exact ⟨by simpa using this, fun s hs => b l hl s hs⟩
 ·intro c
  exact ⟨fun l hl => by simpa using (c l hl).1, fun l hl s hs => (c l hl).2 s hs⟩
theorem all_take' {α : Type} (f : α → Bool) {l : List α} {k : Nat} (h : k < l.length) : (l.take (k + 1)).all f = ((l.take k).all f && f l[k]) := by
 rw [List.take_succ_eq_append_getElem h, List.all_append]; simp
theorem all_no' {α : Type} {f : α → Bool} {l : List α} {x : α} (hx : x ∈ l) (h : f x = false) : l.all f = false := by
 rw [Bool.eq_false_iff]; intro c; rw [List.all_eq_true] at c; rw [c x hx] at h; cases h
theorem cells3p {W : World} {g : Nat} {x0 x1 x2 : Value} {t : TypeId} (h : W.heap[g]? = some (.cells #[x0, x1, x2] t)) :
  W.cell? ⟨g, 0, none⟩ = some x0 ∧ W.cell? ⟨g, 1, none⟩ = some x1 ∧ W.cell? ⟨g, 2, none⟩ = some x2 := by
 refine ⟨?_, ?_, ?_⟩ <;> simp [World.cell?, h]
theorem may8_l (v : Value) (g : GR) (w : World) (h : GrM w v g) :
  Calls Tryz.prog 48 #[v] w fun e w' => e = .returned (.bool (yo g.1)) ∧ Below w.heap.size w w' := by
 obtain ⟨a, c, aK, cK, rfl, hp, -⟩ := id h
 obtain ⟨P, K⟩ := g
 simp only at hp ⊢
 obtain ⟨a0, c0, e0, hc1, hc2, h3⟩ := id hp
 injection e0 with e1 e2 e3
 subst e1; subst e3
 unfold maxLen at hc2
 have H3 := zx h3
 have CS := zx (fun (s : SY) a c W h => sym8_l s a c P.length W h)
 generalize K.length = nK at *
 clear h hp h3 e2
 go_enter Tryz.func48, Tryz.ntmps48
 go_wp2_with fail
 have G0 := zx (heap_alloc_new w (.cells #[.slice a P.length c, .slice aK nK cK] 32))
 have B0 := zx (Below.new1 (w := w) (.cells #[.slice a P.length c, .slice aK nK cK] 32))
 generalize hw0 : (w.alloc (.cells #[.slice a P.length c, .slice aK nK cK] 32)) = w0 at *
 clear hw0
 go_loopw [3] (fun i wr => ∃ (j : Nat), j ≤ P.length ∧ i = .int .i64 (j : Int) ∧ Hid ((P.take j).all (fun p => qj p P.length) = true) ∧ Hid (Below w0.heap.size w0 wr)) (fun i _ => P.length - (intOf i).toNat)
 case atStart => exact ⟨0, Nat.zero_le _, rfl, rfl, Below.refl _ _⟩
 case round =>
  obtain ⟨j, hj, rfl, hO, hB⟩ := hrel
  generalize hWo : wr = Wo at *
  clear hWo
  have G1 := ((zy hB).block _ (Array.getElem?_eq_some_iff.1 (zy G0)).1).trans (zy G0)
  obtain ⟨y0, y1, -, -⟩ := yZ G1
  have BW := zx (zJ (zy B0) (zy hB))
  by_cases hlt : j < P.length
  ·obtain ⟨p, hjp⟩ : ∃ p, P[j]? = some p := ⟨P[j], by simp [hlt]⟩
   obtain ⟨gp, off, u, u2, rfl, hg, q0, q1, q2, hA, hN⟩ := zy H3 j p hjp
   have hm : p ∈ P := List.mem_of_getElem? hjp
   have r0 := ((zy BW).cell (p := ⟨gp, off + 3 * j, none⟩) hg).trans q0
   have r1 := ((zy BW).cell (p := ⟨gp, off + 3 * j + 1, none⟩) hg).trans q1
   have r2 := ((zy BW).cell (p := ⟨gp, off + 3 * j + 2, none⟩) hg).trans q2
   have TJ : Hid ((P.take (j + 1)).all (fun p => qj p P.length) = ((P.take j).all (fun p => qj p P.length) && qj p P.length)) := by
    show _ = _
    have e : P[j] = p := Option.some.inj ((List.getElem?_eq_getElem hlt).symm.trans hjp)
    rw [all_take' _ hlt, e]
   have NO := zx (fun (h : qj p P.length = false) => gramB_no hm h)
   obtain ⟨aA, cA, rfl, hA1, hA2⟩ := hA.form
   obtain ⟨aN, cN, rfl, rN⟩ := hN
   unfold maxLen at hA2
   have HA := zx (hA.later (zy BW))
   have CM := zx (fun W (bW : Below Wo.heap.size Wo W) => rgRefMay_any aN p.2.2.length cN p.2.2 W (rN.later ((zy BW).trans (bW.mono (zy BW).size)) (Nat.le_refl _)))
   have j3 : j * 3 = 3 * j := by omega
   have BP : Below Wo.heap.size Wo (Wo.alloc (.cells #[.slice aA p.1.length cA, .int .i64 p.2.1, .slice aN p.2.2.length cN] 45)) := Below.new1 _
   have GP := heap_alloc_new Wo (.cells #[.slice aA p.1.length cA, .int .i64 p.2.1, .slice aN p.2.2.length cN] 45)
   clear hjp hm hA q0 q1 q2 rN
   obtain ⟨z0, z1, z2⟩ := cells3p GP
   go_wp2_with fail
   refine (zy CM _ BP).mono ?_
   rintro e w1 ⟨rfl, b1⟩
   have GP1 := (b1.block _ (Array.getElem?_eq_some_iff.1 GP).1).trans GP
   have B1 := zx (zJ BP b1)
   have BE := zx (zJ (zy BW) (zJ BP b1))
   have BH := zx (zJ (zy hB) (zJ BP b1))
   clear CM BP GP b1 z0 z1 z2 y0 y1 r0 r1 r2 G1
   obtain ⟨z0, z1, z2⟩ := cells3p GP1
   cases hmay : G.zQ p.2.2 with
   | false =>
    have FB : Hid (yo P = false) := zy NO (by unfold qj; rw [hmay]; simp)
    clear hmay NO TJ hO
    go_wp2_with fail
    go_ret
    exact ⟨zZ (zy FB).symm, zy BE⟩
   | true =>
    by_cases h1 : 1 ≤ p.1.length
    case neg =>
     have b1 : decide ((p.1.length : Int) < 1) = true := decide_eq_true (by omega)
     have b2 : decide (p.1.length < 1) = true := decide_eq_true (by omega)
     have FB : Hid (yo P = false) := zy NO (by unfold qj YK; simp [h1])
     have hz : p.1.length = 0 := by omega
     clear hmay NO TJ hO h1
     rw [hz] at z0 b1 b2
     clear hz hA1 hA2 HA
     go_wp2_with fail
     go_ret
     exact ⟨zZ (zy FB).symm, zy BE⟩
    have b1 : decide ((p.1.length : Int) < 1) = false := decide_eq_false (by omega)
    have b2 : decide (p.1.length < 1) = false := decide_eq_false (by omega)
    by_cases h8 : p.1.length ≤ 8
    case neg =>
     have b3 : decide (8 < (p.1.length : Int)) = true := decide_eq_true (by omega)
     have b4 : decide (8 < p.1.length) = true := decide_eq_true (by omega)
     have FB : Hid (yo P = false) := zy NO (by unfold qj YK; simp [h8])
     clear hmay NO TJ hO h8 h1 HA
     generalize p.1.length = nA at *
     go_wp2_with fail
     go_ret
     exact ⟨zZ (zy FB).symm, zy BE⟩
    have b3 : decide (8 < (p.1.length : Int)) = false := decide_eq_false (by omega)
    have b4 : decide (8 < p.1.length) = false := decide_eq_false (by omega)
    by_cases h0 : 0 ≤ p.2.1
    case neg =>
     have b5 : decide (p.2.1 < 0) = true := decide_eq_true (by omega)
     have FB : Hid (yo P = false) := zy NO (by unfold qj; simp [h0])
     clear hmay NO TJ hO h8 h1 h0 HA
     generalize p.1.length = nA at *
     generalize p.2.1 = mk at *
     go_wp2_with fail
     go_ret
     exact ⟨zZ (zy FB).symm, zy BE⟩
    have b5 : decide (p.2.1 < 0) = false := decide_eq_false (by omega)
    by_cases h63 : p.2.1 ≤ 63
    case neg =>
     have b6 : decide (63 < p.2.1) = true := decide_eq_true (by omega)
     have FB : Hid (yo P = false) := zy NO (by unfold qj; simp [h63])
     clear hmay NO TJ hO h8 h1 h0 h63 HA
     generalize p.1.length = nA at *
     generalize p.2.1 = mk at *
     go_wp2_with fail
     go_ret
     exact ⟨zZ (zy FB).symm, zy BE⟩
    have b6 : decide (63 < p.2.1) = false := decide_eq_false (by omega)
    have PA := zx (prodB_alts (many := (P.length : Int)) h1 h8 h0 h63 hmay)
    have HA2 := zx ((zy HA).later (zy B1))
    clear hmay h0 h63 h1 HA
    generalize p.2.1 = mk at *
    go_wp2_with fail
    go_loopw [6] (fun i wr => ∃ (k : Nat), k ≤ p.1.length ∧ i = .int .i64 (k : Int) ∧ Hid ((p.1.take k).all (altB P.length) = true) ∧ Hid (Below w1.heap.size w1 wr)) (fun i _ => p.1.length - (intOf i).toNat)
    case atStart => exact ⟨0, Nat.zero_le _, rfl, rfl, Below.refl _ _⟩
    case round =>
     obtain ⟨k, hk, rfl, hO2, hB2⟩ := hrel
     have GP2 := ((zy hB2).block _ (Array.getElem?_eq_some_iff.1 GP1).1).trans GP1
     clear z0 z1 z2
     obtain ⟨z0, z1, z2⟩ := cells3p GP2
     by_cases hlt2 : k < p.1.length
     ·obtain ⟨l, hkl⟩ : ∃ l, p.1[k]? = some l := ⟨p.1[k], by simp [hlt2]⟩
      obtain ⟨gA, oA, aS, cS, rfl, hgA, s0, hSy, hS1, hS2⟩ := ((zy HA2).later (zy hB2)).get hkl
      have TK : Hid ((p.1.take (k + 1)).all (altB P.length) = ((p.1.take k).all (altB P.length) && altB P.length l)) := by
       show _ = _
       have e : p.1[k] = l := Option.some.inj ((List.getElem?_eq_getElem hlt2).symm.trans hkl)
       rw [all_take' _ hlt2, e]
      have NA := zx (fun (h : altB P.length l = false) => zy NO ((zy PA).trans (all_no' (List.mem_of_getElem? hkl) h)))
      unfold maxLen at hS2
      have HSY := zx hSy
      clear hkl hSy
      by_cases h40 : l.length ≤ 40
      case neg =>
       have d1 : decide (40 < (l.length : Int)) = true := decide_eq_true (by omega)
       have d2 : decide (40 < l.length) = true := decide_eq_true (by omega)
       have FB : Hid (yo P = false) := zy NA (by unfold altB; simp [h40])
       have BR := zx (zJ (zy BE) (zy hB2))
       clear NA TK hO2 TJ hO NO PA h40 HSY HA2
       generalize l.length = nl at *
       go_wp2_with fail
       go_ret
       exact ⟨zZ (zy FB).symm, zy BR⟩
      have d1 : decide (40 < (l.length : Int)) = false := decide_eq_false (by omega)
      have d2 : decide (40 < l.length) = false := decide_eq_false (by omega)
      generalize hWr : wr = W2 at *
      clear hWr
      go_wp2_with fail
      go_loopw [7] (fun i wr => ∃ (m : Nat), m ≤ l.length ∧ i = .int .i64 (m : Int) ∧ Hid ((l.take m).all (fun s => jJ s P.length) = true) ∧ Hid (Below W2.heap.size W2 wr)) (fun i _ => l.length - (intOf i).toNat)
      case atStart => exact ⟨0, Nat.zero_le _, rfl, rfl, Below.refl _ _⟩
      case round =>
       obtain ⟨m, hm, rfl, hO3, hB3⟩ := hrel
       have GP3 := ((zy hB3).block _ (Array.getElem?_eq_some_iff.1 GP2).1).trans GP2
       clear z0 z1 z2
       obtain ⟨z0, z1, z2⟩ := cells3p GP3
       have G3 := ((zJ (zy BH) (zJ (zy hB2) (zy hB3))).block _ (Array.getElem?_eq_some_iff.1 (zy G0)).1).trans (zy G0)
       obtain ⟨y0, y1, -, -⟩ := yZ G3
       have s3 := ((zy hB3).cell (p := ⟨gA, oA + k, none⟩) hgA).trans s0
       by_cases hlt3 : m < l.length
       ·obtain ⟨gS, oS, s, x, kk, rfl, hgS, t0, t1, t2, hr, -, hdr, hmem⟩ := symM_at ((zy HSY).later (zy hB3)) m hlt3
        have CSS := zx (fun W (bW : Below wr.heap.size wr W) => zy CS s x kk W (hr.later bW (Nat.le_refl _)))
        have TM : Hid ((l.take (m + 1)).all (fun s => jJ s P.length) = ((l.take m).all (fun s => jJ s P.length) && jJ s P.length)) := by
         show _ = _
         have e : l[m] = s := by
          have := List.drop_eq_getElem_cons hlt3
          rw [hdr] at this
          injection this with h1 h2
          exact h1.symm
         rw [all_take' _ hlt3, e]
        have NS := zx (fun (h : jJ s P.length = false) => zy NA (by unfold altB; rw [all_no' (f := fun s => jJ s P.length) hmem h]; simp))
        have m3 : m * 3 = 3 * m := by omega
        obtain ⟨sk, sr, sn⟩ := s
        simp only at t0 t1 t2 CSS
        have KS := zx (fun (X : World) (b : Below wr.heap.size wr X) => show X.cell? ⟨Wo.heap.size, 0, none⟩ = some (.slice (some ⟨gA, oA, none⟩) p.1.length cA) ∧ X.cell? ⟨gA, oA + k, none⟩ = some (.slice (some ⟨gS, oS, none⟩) l.length cS) ∧ X.cell? ⟨gS, oS + 3 * m, none⟩ = some (.int .i64 sk) ∧ X.cell? ⟨gS, oS + 3 * m + 1, none⟩ = some (.slice x sr.length kk) ∧ X.cell? ⟨gS, oS + 3 * m + 2, none⟩ = some (.int .i64 sn) ∧ X.cell? ⟨w.heap.size, 0, none⟩ = some (.slice (some ⟨gp, off, none⟩) P.length c) from
         ⟨(b.cell (zY z0)).trans z0, (b.cell (zY s3)).trans s3, (b.cell (zY t0)).trans t0, (b.cell (zY t1)).trans t1, (b.cell (zY t2)).trans t2, (b.cell (zY y0)).trans y0⟩)
        clear hr hdr hmem
        have bk0 : (k : Int) < (p.1.length : Int) := by omega
        have bm0 : (m : Int) < (l.length : Int) := by omega
        cases hsy : jJ (sk, sr, sn) P.length with
        | false =>
         have FB := zx (zy NS hsy)
         rw [hsy] at CSS
         clear hsy NS TM
         go_wp2_with fail
         go_region_held3 (fun w' => w'.cell? ⟨Wo.heap.size, 0, none⟩ = some (.slice (some ⟨gA, oA, none⟩) p.1.length cA) ∧ w'.cell? ⟨gA, oA + k, none⟩ = some (.slice (some ⟨gS, oS, none⟩) l.length cS) ∧ w'.cell? ⟨gS, oS + 3 * m, none⟩ = some (.int .i64 sk) ∧ w'.cell? ⟨gS, oS + 3 * m + 1, none⟩ = some (.slice x sr.length kk) ∧ w'.cell? ⟨gS, oS + 3 * m + 2, none⟩ = some (.int .i64 sn) ∧ w'.cell? ⟨w.heap.size, 0, none⟩ = some (.slice (some ⟨gp, off, none⟩) P.length c))
          (first | exact zy KS _ bs5 | exact zy KS _ (zk (k := 1)) | exact zy KS _ (Below.refl _ _))
          ((go_at_call 90; refine (zy CSS _ (zk (k := 1))).mono ?_; rintro e w5 ⟨rfl, b5⟩; have bs5 := zJ (zk (w := wr) (k := 1)) b5))
         go_wp2_with fail
         go_ret
         exact ⟨zZ (zy FB).symm, zJ (zy BE) (zJ (zy hB2) (zJ (zy hB3) bs5))⟩
        | true =>
         have NX : Hid ((l.take (m + 1)).all (fun s => jJ s P.length) = true) := by show _ = _; rw [zy TM, zy hO3, hsy]; rfl
         rw [hsy] at CSS
         clear hsy NS TM
         go_wp2_with fail
         go_region_held3 (fun w' => w'.cell? ⟨Wo.heap.size, 0, none⟩ = some (.slice (some ⟨gA, oA, none⟩) p.1.length cA) ∧ w'.cell? ⟨gA, oA + k, none⟩ = some (.slice (some ⟨gS, oS, none⟩) l.length cS) ∧ w'.cell? ⟨gS, oS + 3 * m, none⟩ = some (.int .i64 sk) ∧ w'.cell? ⟨gS, oS + 3 * m + 1, none⟩ = some (.slice x sr.length kk) ∧ w'.cell? ⟨gS, oS + 3 * m + 2, none⟩ = some (.int .i64 sn) ∧ w'.cell? ⟨w.heap.size, 0, none⟩ = some (.slice (some ⟨gp, off, none⟩) P.length c))
          (first | exact zy KS _ bs5 | exact zy KS _ (zk (k := 1)) | exact zy KS _ (Below.refl _ _))
          ((go_at_call 90; refine (zy CSS _ (zk (k := 1))).mono ?_; rintro e w5 ⟨rfl, b5⟩; have bs5 := zJ (zk (w := wr) (k := 1)) b5))
         have B5 := zx (zJ (zy hB3) bs5)
         clear b5 bs5
         go_wp2_with fail
         exact ⟨⟨m + 1, by omega, by simp, NX, B5⟩, by simp [intOf]; omega⟩
       ·obtain rfl : m = l.length := by omega
        have NX : Hid ((p.1.take (k + 1)).all (altB P.length) = true) := by
         show _ = _
         have e3 := zy hO3
         rw [List.take_length] at e3
         rw [zy TK, zy hO2]
         unfold altB
         rw [e3]; simp [h40]
        have B3 := zx (zJ (zy hB2) (zy hB3))
        clear TK hO2 hO3
        go_wp2_with fail
        exact ⟨⟨k + 1, by omega, by simp, NX, B3⟩, by simp [intOf]; omega⟩
     ·obtain rfl : k = p.1.length := by omega
      have NX : Hid ((P.take (j + 1)).all (fun p => qj p P.length) = true) := by
       show _ = _
       have e2 := zy hO2
       rw [List.take_length] at e2
       rw [zy TJ, zy hO, zy PA, e2]; rfl
      have B3 := zx (zJ (zy BH) (zy hB2))
      clear TJ hO PA hO2
      go_wp2_with fail
      exact ⟨⟨j + 1, by omega, by simp, NX, B3⟩, by simp [intOf]; omega⟩
  ·obtain rfl : j = P.length := by omega
   have FB : Hid (yo P = (decide (1 ≤ P.length) && decide (P.length ≤ 60))) := by
    have e := zy hO
    rw [List.take_length] at e
    exact gramB_yes e
   clear hO H3 CS
   generalize P.length = n at *
   by_cases h1 : 1 ≤ n
   ·have b1 : decide ((1 : Int) ≤ (n : Int)) = true := decide_eq_true (by omega)
    by_cases h60 : n ≤ 60
    ·have b2 : decide ((n : Int) ≤ 60) = true := decide_eq_true (by omega)
     have FC : Hid (yo P = true) := by show _ = _; rw [zy FB]; simp [h1, h60]
     clear FB h1 h60
     go_wp2_with fail
     go_ret
     exact ⟨zZ (zy FC).symm, zy BW⟩
    ·have b2 : decide ((n : Int) ≤ 60) = false := decide_eq_false (by omega)
     have FC : Hid (yo P = false) := by show _ = _; rw [zy FB]; simp [h60]
     clear FB h1 h60
     go_wp2_with fail
     go_ret
     exact ⟨zZ (zy FC).symm, zy BW⟩
   ·have b1 : decide ((1 : Int) ≤ (n : Int)) = false := decide_eq_false (by omega)
    have FC : Hid (yo P = false) := by show _ = _; rw [zy FB]; simp [h1]
    clear FB h1
    go_wp2_with fail
    go_ret
    exact ⟨zZ (zy FC).symm, zy BW⟩
theorem BoV.set {w : World} {base g n c : Nat} {l : List Bool} (h : BoV w base (.slice (some ⟨g, 0, none⟩) n c) l) (hn : l.length = n) (i : Nat) (x : Bool) : BoV (w.setCell ⟨g, i, none⟩ (.bool x)) base (.slice (some ⟨g, 0, none⟩) n c) (l.set i x) ∧ w.grownBy (w.setCell ⟨g, i, none⟩ (.bool x)) (some g) := by
 subst hn
 obtain ⟨h1, h2⟩ := World.ownsRow.stored h i (.bool x)
 refine ⟨?_, h2⟩
 unfold BoV
 rw [List.map_set, List.length_set]; exact h1
theorem BoV.cl {w : World} {base g n c : Nat} {l : List Bool} (h : BoV w base (.slice (some ⟨g, 0, none⟩) n c) l) (hn : l.length = n) {i : Nat} (hi : i < n) : w.cell? ⟨g, i, none⟩ = some (.bool (l.getD i false)) ∧ w.frozen? ⟨g, i, none⟩ = false := by
 subst hn
 refine ⟨?_, World.ownsRow.frozenAt h i⟩
 rw [World.ownsRow.cellAt h i (by omega), List.getElem?_map, List.getD_eq_getElem?_getD, List.getElem?_eq_getElem hi]; rfl
theorem refAll_l (v : Value) (g : GR) (w : World) (h : GrM w v g) :
  Calls Tryz.prog 22 #[v] w fun e w' => ∃ v', e = .returned v' ∧ BoV w' w.heap.size v' (xw g) ∧ Below w.heap.size w w' := by
 have CM := zx (fun W (bW : Below w.heap.size w W) => may8_l v g W (h.later bW))
 obtain ⟨a, c, aK, cK, rfl, hp, -⟩ := id h
 unfold xw
 obtain ⟨P, K⟩ := g
 simp only at CM hp ⊢
 generalize K.length = nK at *
 cases hg : yo P with
 | false =>
  rw [hg] at CM
  clear h hp hg
  generalize P.length = nP at *
  go_enter Tryz.func22, Tryz.ntmps22
  go_wp2_with fail
  refine (zy CM _ (Below.new1 _)).mono ?_
  rintro e w1 ⟨rfl, b1⟩
  clear CM
  go_wp2_with fail
  go_ret
  exact ⟨_, rfl, BoV.nil _ _, zJ (Below.new1 _) b1⟩
 | true =>
  rw [hg] at CM
  obtain ⟨hP1, h60, h8, -, -, -⟩ := gram_ok hg
  obtain ⟨ti, hi0, hz0, hz1, hz2⟩ := info_parts bool_info
  have HP := zx hp
  obtain ⟨a0, c0, e0, hc1, hc2, h3⟩ := id hp
  injection e0 with e1 e2 e3
  subst e1; subst e3
  unfold maxLen at hc2
  have H3 := zx h3
  have H8 := zx h8
  clear h hp hg h8 h3 e2
  rw [if_pos rfl]
  have RF := zx (RdI.first P)
  have RD := zx (fun (is : List Bool) (h : RdI P P.length 0 0 is) => h.done)
  go_enter Tryz.func22, Tryz.ntmps22
  go_wp2_with fail
  refine (zy CM _ (Below.new1 _)).mono ?_
  rintro e w1 ⟨rfl, b1⟩
  clear CM
  have hk1 := nkept b1
  obtain ⟨y0, y1, -, -⟩ := yZ hk1
  have B1 := zx (zJ (Below.new1 _) b1)
  clear b1
  go_wp2_with (at_make; refine wpList_make_full _ rfl _ _ 49 rfl w.heap.size 4 ti _ 1 Tryz.underlying49 hi0 hz0 hz1 .i64 .i64 _ _ P.length rfl rfl rfl rfl (by rw [hz2]; omega) (by unfold maxLen; omega) (zy B1).size ?_; intro w3 hown hg3)
  rw [show (Value.bool false).cells = #[.bool false] from rfl, made_bool] at hown
  have b3 : Below w1.heap.size w1 w3 := ⟨hg3.os, hg3.tape, hg3.output, hg3.size, fun k hk => hg3.block k hk (by simp)⟩
  have B3 := zx (zJ (zy B1) b3)
  have hk3 := (b3.block _ (Array.getElem?_eq_some_iff.1 hk1).1).trans hk1
  have gml : w.heap.size < w1.heap.size := zY y0
  have HO : Hid (BoV w3 w.heap.size (.slice (some ⟨w1.heap.size, 0, none⟩) P.length P.length) (List.replicate P.length false)) := by
   show w3.ownsRow _ _ _ _ _ _
   rw [List.map_replicate, List.length_replicate]; exact hown
  have HK := zx hk3
  clear hown hg3 b3 y0 y1 B1 hk1 hk3
  generalize hgm2 : w1.heap.size = gm at *
  clear hgm2
  obtain ⟨y0, y1, -, -⟩ := yZ (zy HK)
  go_wp2_with fail
  go_loopw [5] (fun i wr => ∃ (k : Nat) (L : List Bool), k ≤ P.length ∧ i = .int .i64 (k : Int) ∧ Hid (RdI P k 0 0 L) ∧ Hid (BoV wr w.heap.size (.slice (some ⟨gm, 0, none⟩) P.length P.length) L) ∧ Hid (Below w.heap.size w wr) ∧ Hid (wr.heap[w.heap.size]? = some (.cells #[.slice a P.length c, .slice aK nK cK] 32))) (fun i _ => P.length - (intOf i).toNat)
  case atStart => exact ⟨0, _, Nat.zero_le _, rfl, RF, HO, B3, HK⟩
  case round =>
   clear HO B3 HK RF y0 y1
   obtain ⟨k, L0, hk, rfl, hR0, hO0, hB0, hK0⟩ := hrel
   obtain ⟨y0, y1, -, -⟩ := yZ (zy hK0)
   by_cases hlt : k < P.length
   ·go_wp2_with fail
    go_loopw [6] (fun i wr => ∃ (n : Nat) (L : List Bool), n ≤ P.length ∧ i = .int .i64 (n : Int) ∧ Hid (RdI P k n 0 L) ∧ Hid (BoV wr w.heap.size (.slice (some ⟨gm, 0, none⟩) P.length P.length) L) ∧ Hid (Below w.heap.size w wr) ∧ Hid (wr.heap[w.heap.size]? = some (.cells #[.slice a P.length c, .slice aK nK cK] 32))) (fun i _ => P.length - (intOf i).toNat)
    case atStart => exact ⟨0, L0, Nat.zero_le _, rfl, hR0, hO0, hB0, hK0⟩
    case round =>
     clear hR0 hO0 hB0 hK0 y0 y1
     obtain ⟨n, L1, hn, rfl, hR1, hO1, hB1, hK1⟩ := hrel
     obtain ⟨y0, y1, -, -⟩ := yZ (zy hK1)
     by_cases hlt1 : n < P.length
     ·obtain ⟨p, hnp⟩ : ∃ p, P[n]? = some p := ⟨P[n], by simp [hlt1]⟩
      obtain ⟨gp, off, u, u2, rfl, hgp, q0, q1, q2, hA, hN⟩ := zy H3 n p hnp
      obtain ⟨aA, cA, rfl, hA1, hA2⟩ := hA.form
      unfold maxLen at hA2
      have hp8 := zy H8 p (List.mem_of_getElem? hnp)
      have HNP := zx hnp
      have HAl := zx hA
      have n3 : n * 3 = 3 * n := by omega
      have r0 := ((zy hB1).cell (p := ⟨gp, off + 3 * n, none⟩) hgp).trans q0
      clear hnp hA hN q1 q2
      go_wp2_with fail
      go_loopw [7] (fun i wr => ∃ (j : Nat) (L : List Bool), j ≤ p.1.length ∧ i = .int .i64 (j : Int) ∧ Hid (RdI P k n j L) ∧ Hid (BoV wr w.heap.size (.slice (some ⟨gm, 0, none⟩) P.length P.length) L) ∧ Hid (Below w.heap.size w wr) ∧ Hid (wr.heap[w.heap.size]? = some (.cells #[.slice (some ⟨gp, off, none⟩) P.length c, .slice aK nK cK] 32))) (fun i _ => p.1.length - (intOf i).toNat)
      case atStart => exact ⟨0, L1, Nat.zero_le _, rfl, hR1, hO1, hB1, hK1⟩
      case round =>
       clear hR1 hO1 hB1 hK1 y0 y1 r0
       obtain ⟨j, L, hj, rfl, hR2, hO2, hB2, hK2⟩ := hrel
       obtain ⟨y0, y1, -, -⟩ := yZ (zy hK2)
       have r0 := ((zy hB2).cell (p := ⟨gp, off + 3 * n, none⟩) hgp).trans q0
       by_cases hlt2 : j < p.1.length
       ·obtain ⟨l, hjl⟩ : ∃ l, p.1[j]? = some l := ⟨p.1[j], by simp [hlt2]⟩
        obtain ⟨gA, oA, aS, cS, rfl, hgA, s0, hSy, hS1, hS2⟩ := (zy HAl).get hjl
        have NX : Hid (RdI P k n (j + 1) (L.set n (L.getD n false || qa L l))) := (zy hR2).alt (zy HNP) hjl
        have hLn := (zy hR2).len
        have CO := zx (fun W (bW : Below wr.heap.size wr W) => only_l _ _ L l W ((ceOwn (enc := Value.bool) (zy hO2)).later bW) (hSy.later ((zy hB2).trans (bW.mono (zy hB2).size))))
        generalize qa L l = eb at *
        have s1 := ((zy hB2).cell (p := ⟨gA, oA + j, none⟩) hgA).trans s0
        have bn : (n : Int) < (P.length : Int) := by omega
        have bj : (j : Int) < (p.1.length : Int) := by omega
        clear hjl hSy hR2 s0
        go_wp2_with fail
        refine (zy CO _ (Below.refl _ _)).mono ?_
        rintro e w5 ⟨rfl, b5⟩
        have hO5 := (zy hO2).later b5
        obtain ⟨v0, f0⟩ := hO5.cl hLn hlt1
        obtain ⟨hO6, -⟩ := hO5.set hLn n (L.getD n false || eb)
        have B5 := zJ (zy hB2) b5
        have K5 := (b5.block _ (Array.getElem?_eq_some_iff.1 (zy hK2)).1).trans (zy hK2)
        have HB6 := zx (B5.setCell (p := ⟨gm, n, none⟩) (by simp only; omega) (.bool (L.getD n false || eb)))
        have HK6 := zx (zj (g := gm) (i := n) K5 (by omega) (.bool (L.getD n false || eb)))
        have HO6 := zx hO6
        generalize L.getD n false = x at *
        clear CO hO5 hO6 B5 K5 b5 hO2 hB2 hK2 y0 y1 r0 s1 hLn
        cases x with
        | true =>
         rw [Bool.true_or] at NX HB6 HK6 HO6
         go_wp2_with fail
         exact ⟨⟨j + 1, _, by omega, by simp, NX, HO6, HB6, HK6⟩, by simp [intOf]; omega⟩
        | false =>
         rw [Bool.false_or] at NX HB6 HK6 HO6
         go_wp2_with fail
         exact ⟨⟨j + 1, _, by omega, by simp, NX, HO6, HB6, HK6⟩, by simp [intOf]; omega⟩
       ·obtain rfl : j = p.1.length := by omega
        have NX := zx ((zy hR2).next (zy HNP))
        clear hR2
        go_wp2_with fail
        exact ⟨⟨n + 1, L, by omega, by simp, NX, hO2, hB2, hK2⟩, by simp [intOf]; omega⟩
     ·obtain rfl : n = P.length := by omega
      have NX := zx ((zy hR1).round)
      clear hR1
      go_wp2_with fail
      exact ⟨⟨k + 1, L1, by omega, by simp, NX, hO1, hB1, hK1⟩, by simp [intOf]; omega⟩
   ·obtain rfl : k = P.length := by omega
    have e9 := zy RD L0 (zy hR0)
    have HO9 := zy hO0
    rw [e9] at HO9
    have HO10 := zx HO9
    clear e9 HO9 RD
    go_wp2_with fail
    go_ret
    exact ⟨_, rfl, zy HO10, zy hB0⟩
end Go.Proofs.YtnfgobgflcmepaaGreatDoor.Nl
namespace Go.Proofs.YtnfgobgflcmepaaGreatDoor.Nl
open Go.Proofs.YtnfgobgflcmepaaGreatDoor.F
def AtL (is : List Bool) (a : List SY) (m : Nat) (x : Int) : Prop := ∃ s, a[m]? = some s ∧ s.1 = 2 ∧ s.2.2 = x ∧ qa is (a.take m) = true
theorem lefL_iff {is : List Bool} : ∀ {a : List SY} {x : Int}, x ∈ lefL is a ↔ ∃ m, AtL is a m x := by
 intro a
 induction a with
 | nil => intro x; simp [lefL, AtL]
 | cons s l ih =>
  intro x
  constructor
  ·intro h
   unfold lefL at h
   split at h
   ·rename_i h2
    rcases List.mem_cons.1 h with h | h
    ·exact ⟨0, s, rfl, h2, h.symm, rfl⟩
    ·split at h
     ·rename_i h3
      obtain ⟨m, t, h4, h5, h6, h7⟩ := ih.1 h
      refine ⟨m + 1, t, by simpa using h4, h5, h6, ?_⟩
      unfold qa at h7 ⊢
      rw [List.take_succ_cons, List.all_cons, h3, h7]; rfl
     ·cases h
   ·cases h
  ·rintro ⟨m, t, h4, h5, h6, h7⟩
   cases m with
   | zero =>
    simp at h4; subst h4
    unfold lefL
    rw [if_pos h5, h6]; exact List.mem_cons_self
   | succ m =>
    unfold qa at h7
    rw [List.take_succ_cons, List.all_cons, Bool.and_eq_true] at h7
    have h2 := (nulS_iff.1 h7.1).1
    unfold lefL
    rw [if_pos h2, if_pos h7.1]
    exact List.mem_cons_of_mem _ (ih.2 ⟨m, t, by simpa using h4, h5, h6, h7.2⟩)
structure LfT (is : List Bool) (A : List (List SY)) (n j i : Nat) (left : List Bool) : Prop where
 len : left.length = n
 iff : ∀ x : Nat, left.getD x false = true ↔ (∃ a ∈ A.take j, (x : Int) ∈ lefL is a) ∨ ∃ a, A[j]? = some a ∧ ∃ m, m < i ∧ AtL is a m (x : Int)
theorem LfT.first (is : List Bool) (A : List (List SY)) (n : Nat) : LfT is A n 0 0 (List.replicate n false) :=
 ⟨by simp, fun x => by
  constructor
  ·intro h
   rw [List.getD_eq_getElem?_getD, List.getElem?_replicate] at h
   split at h <;> simp at h
  ·rintro (⟨a, ha, -⟩ | ⟨a, -, m, hm, -⟩)
   ·simp at ha
   ·omega⟩
theorem LfT.next {is : List Bool} {A : List (List SY)} {n j : Nat} {left : List Bool} {a : List SY} (hj : A[j]? = some a) (h : LfT is A n j a.length left) : LfT is A n (j + 1) 0 left := by
 refine ⟨h.len, fun x => (h.iff x).trans ?_⟩
 rw [List.take_succ_eq_append_getElem (List.getElem?_eq_some_iff.1 hj).1]
 have e : A[j]'(List.getElem?_eq_some_iff.1 hj).1 = a := (List.getElem?_eq_some_iff.1 hj).2
 rw [e]
 constructor
 ·rintro (⟨b, hb, hx⟩ | ⟨b, hb, m, hm, hx⟩)
  ·exact .inl ⟨b, List.mem_append_left _ hb, hx⟩
  ·obtain rfl : b = a := Option.some.inj (hb.symm.trans hj)
   exact .inl ⟨b, List.mem_append_right _ (by simp), lefL_iff.2 ⟨m, hx⟩⟩
 ·rintro (⟨b, hb, hx⟩ | ⟨b, hb, m, hm, hx⟩)
  ·rcases List.mem_append.1 hb with hb | hb
   ·exact .inl ⟨b, hb, hx⟩
   ·simp at hb
    subst hb
    obtain ⟨m, hm⟩ := lefL_iff.1 hx
    refine .inr ⟨b, hj, m, ?_, hm⟩
    obtain ⟨s, hs, -⟩ := hm
    exact (List.getElem?_eq_some_iff.1 hs).1
  ·omega
theorem LfT.skip {is : List Bool} {A : List (List SY)} {n j i : Nat} {left : List Bool} {a : List SY} (hj : A[j]? = some a) (h : LfT is A n j i left) (hno : ∀ x, ¬ AtL is a i x) : LfT is A n j (i + 1) left := by
 refine ⟨h.len, fun x => (h.iff x).trans ?_⟩
 constructor
 ·rintro (hb | ⟨b, hb, m, hm, hx⟩)
  ·exact .inl hb
  ·exact .inr ⟨b, hb, m, by omega, hx⟩
 ·rintro (hb | ⟨b, hb, m, hm, hx⟩)
  ·exact .inl hb
  ·by_cases e : m = i
   ·subst e
    obtain rfl : b = a := Option.some.inj (hb.symm.trans hj)
    exact absurd hx (hno _)
   ·exact .inr ⟨b, hb, m, by omega, hx⟩
theorem LfT.put {is : List Bool} {A : List (List SY)} {n j i y : Nat} {left : List Bool} {a : List SY} (hj : A[j]? = some a) (h : LfT is A n j i left) (hy : y < n) (hx : AtL is a i (y : Int)) : LfT is A n j (i + 1) (left.set y true) := by
 refine ⟨by simp [h.len], fun x => ?_⟩
 have hl : y < left.length := by rw [h.len]; exact hy
 rw [List.getD_eq_getElem?_getD, List.getElem?_set]
 by_cases e : y = x
 ·subst e
  rw [if_pos rfl, if_pos hl]
  exact ⟨fun _ => .inr ⟨a, hj, i, by omega, hx⟩, fun _ => rfl⟩
 ·rw [if_neg e, ← List.getD_eq_getElem?_getD]
  refine (h.iff x).trans ?_
  constructor
  ·rintro (hb | ⟨b, hb, m, hm, hx⟩)
   ·exact .inl hb
   ·exact .inr ⟨b, hb, m, by omega, hx⟩
  ·rintro (hb | ⟨b, hb, m, hm, hz⟩)
   ·exact .inl hb
   ·by_cases e2 : m = i
    ·subst e2
     obtain rfl : b = a := Option.some.inj (hb.symm.trans hj)
     obtain ⟨s, h1, h2, h3, h4⟩ := hx
     obtain ⟨t, g1, g2, g3, g4⟩ := hz
     rw [h1] at g1
     injection g1 with g1
     subst g1
     omega
    ·exact .inr ⟨b, hb, m, by omega, hz⟩
def numL (left : List Bool) (i : Nat) : List Int := ((List.range i).filter fun x => left.getD x false).map Int.ofNat
theorem numL_succ (left : List Bool) (i : Nat) : numL left (i + 1) = if left.getD i false = true then numL left i ++ [(i : Int)] else numL left i := by
 unfold numL
 rw [List.range_succ, List.filter_append]
 by_cases h : left.getD i false = true
 ·rw [if_pos h]; simp only [List.filter_cons, h, List.filter_nil, if_true, List.map_append, List.map_cons, List.map_nil]; rfl
 ·rw [if_neg h]; simp only [List.filter_cons, h, List.filter_nil, if_false, List.append_nil, List.map_append, List.map_nil]; try simp
theorem numL_rise (left : List Bool) (i : Nat) : (numL left i).Pairwise (· < ·) := by
 unfold numL
 rw [List.pairwise_map]
 exact ((List.pairwise_lt_range (n := i)).filter _).imp (fun {a b} h => by simpa using h)
theorem numL_mem {left : List Bool} {i : Nat} {x : Int} : x ∈ numL left i ↔ ∃ m : Nat, m < i ∧ left.getD m false = true ∧ x = (m : Int) := by
 unfold numL
 simp only [List.mem_map, List.mem_filter, List.mem_range]
 constructor
 ·rintro ⟨m, ⟨h1, h2⟩, rfl⟩; exact ⟨m, h1, h2, rfl⟩
 ·rintro ⟨m, h1, h2, rfl⟩; exact ⟨m, ⟨h1, h2⟩, rfl⟩
theorem numL_le (left : List Bool) (i : Nat) : (numL left i).length ≤ i := by
 unfold numL
 rw [List.length_map]
 exact Nat.le_trans (List.length_filter_le _ _) (by simp)
end Go.Proofs.YtnfgobgflcmepaaGreatDoor.Nl
namespace Go.Proofs.YtnfgobgflcmepaaGreatDoor.Nl
open Go.RowKit Go.Shelf Go.Proofs.YtnfgobgflcmepaaGreatDoor.T Go.Proofs.YtnfgobgflcmepaaGreatDoor.R Go.Proofs.YtnfgobgflcmepaaGreatDoor.F
def EncS : List SY → List Value → Prop
 | [], cs => cs = []
 | s :: l, cs => ∃ x k cs', cs = .int .i64 s.1 :: .slice x s.2.1.length k :: .int .i64 s.2.2 :: cs' ∧ EncS l cs'
theorem EncS.len : ∀ {l : List SY} {cs : List Value}, EncS l cs → cs.length = l.length * 3 := by
 intro l
 induction l with
 | nil => intro cs h; have : cs = [] := h; subst this; rfl
 | cons s l ih => intro cs h; obtain ⟨x, k, cs', rfl, h⟩ := h; have := ih h; simp; omega
theorem EncS.one : ∀ {l : List SY} {cs : List Value}, EncS l cs → ∀ u ∈ cs, u.oneCell' = true := by
 intro l
 induction l with
 | nil => intro cs h u hu; have : cs = [] := h; subst this; cases hu
 | cons s l ih =>
  intro cs h u hu
  obtain ⟨x, k, cs', rfl, h⟩ := h
  rcases List.mem_cons.1 hu with rfl | hu
  ·rfl
  rcases List.mem_cons.1 hu with rfl | hu
  ·rfl
  rcases List.mem_cons.1 hu with rfl | hu
  ·rfl
  exact ih h u hu
theorem EncS.append : ∀ {l m : List SY} {cs ds : List Value}, EncS l cs → EncS m ds → EncS (l ++ m) (cs ++ ds) := by
 intro l
 induction l with
 | nil => intro m cs ds h h2; have : cs = [] := h; subst this; exact h2
 | cons s l ih => intro m cs ds h h2; obtain ⟨x, k, cs', rfl, h⟩ := h; exact ⟨x, k, cs' ++ ds, rfl, ih h h2⟩
theorem EncS.at : ∀ {l : List SY} {cs : List Value} {j : Nat} {s : SY}, EncS l cs → l[j]? = some s → ∃ x k, cs[3 * j]? = some (.int .i64 s.1) ∧ cs[3 * j + 1]? = some (.slice x s.2.1.length k) ∧ cs[3 * j + 2]? = some (.int .i64 s.2.2) := by
 intro l
 induction l with
 | nil => intro cs j s _ hj; simp at hj
 | cons y l ih =>
  intro cs j s h hj
  obtain ⟨x, k, cs', rfl, h⟩ := h
  cases j with
  | zero => simp at hj; subst hj; exact ⟨x, k, rfl, rfl, rfl⟩
  | succ j =>
   obtain ⟨x2, k2, h0, h1, h2⟩ := ih h (by simpa using hj)
   refine ⟨x2, k2, ?_, ?_, ?_⟩
   ·rw [show 3 * (j + 1) = 3 * j + 1 + 1 + 1 by omega]; simpa using h0
   ·rw [show 3 * (j + 1) + 1 = 3 * j + 1 + 1 + 1 + 1 by omega]; simpa using h1
   ·rw [show 3 * (j + 1) + 2 = 3 * j + 2 + 1 + 1 + 1 by omega]; simpa using h2
def SrcS (w : World) (a : Option Addr) (n : Nat) (cs : List Value) : Prop := (a = none ∧ n = 0) ∨ ∃ ad, a = some ad ∧ ∀ (j : Nat) (u : Value), cs[j]? = some u → ad.block < w.heap.size ∧ w.cell? (ad.add j) = some u
theorem SrcS.later {w X : World} {a : Option Addr} {n : Nat} {cs : List Value} (h : SrcS w a n cs) (b : Below w.heap.size w X) : SrcS X a n cs := by
 rcases h with h | ⟨ad, rfl, h⟩
 ·exact .inl h
 ·refine .inr ⟨ad, rfl, fun j u hu => ?_⟩
  obtain ⟨h1, h2⟩ := h j u hu
  have e : (ad.add j).block = ad.block := by unfold Addr.add; split <;> rfl
  exact ⟨Nat.lt_of_lt_of_le h1 b.size, (b.cell (p := ad.add j) (by rw [e]; exact h1)).trans h2⟩
theorem AltM.one {w : World} {u : Value} {A : List (List SY)} (h : AltM w u A) : u.oneCell' = true := by obtain ⟨a, c, rfl, -⟩ := h; rfl
theorem NotM.one {w : World} {u : Value} {N : List (Int × Int)} (h : NotM w u N) : u.oneCell' = true := by obtain ⟨a, c, rfl, -⟩ := h; rfl
theorem SyM.one {w : World} {u : Value} {l : List SY} (h : SyM w u l) : u.oneCell' = true := by obtain ⟨a, c, rfl, -⟩ := h; rfl
def EncP (w : World) : List PRD → List Value → Prop
 | [], cs => cs = []
 | p :: P, cs => ∃ u u2 cs', cs = u :: .int .i64 p.2.1 :: u2 :: cs' ∧ AltM w u p.1 ∧ NotM w u2 p.2.2 ∧ EncP w P cs'
theorem EncP.len {w : World} : ∀ {P : List PRD} {cs : List Value}, EncP w P cs → cs.length = P.length * 3 := by
 intro P
 induction P with
 | nil => intro cs h; have : cs = [] := h; subst this; rfl
 | cons p P ih => intro cs h; obtain ⟨u, u2, cs', rfl, -, -, h⟩ := h; have := ih h; simp; omega
theorem EncP.one {w : World} : ∀ {P : List PRD} {cs : List Value}, EncP w P cs → ∀ u ∈ cs, u.oneCell' = true := by
 intro P
 induction P with
 | nil => intro cs h u hu; have : cs = [] := h; subst this; cases hu
 | cons p P ih =>
  intro cs h u hu
  obtain ⟨x, y, cs', rfl, h1, h2, h⟩ := h
  rcases List.mem_cons.1 hu with rfl | hu
  ·exact h1.one
  rcases List.mem_cons.1 hu with rfl | hu
  ·rfl
  rcases List.mem_cons.1 hu with rfl | hu
  ·exact h2.one
  exact ih h u hu
theorem EncP.later {w X : World} (b : Below w.heap.size w X) : ∀ {P : List PRD} {cs : List Value}, EncP w P cs → EncP X P cs := by
 intro P
 induction P with
 | nil => intro cs h; exact h
 | cons p P ih => intro cs h; obtain ⟨u, u2, cs', rfl, h1, h2, h⟩ := h; exact ⟨u, u2, cs', rfl, h1.later b, h2.later b, ih h⟩
theorem EncP.at {w : World} : ∀ {P : List PRD} {cs : List Value} {j : Nat} {p : PRD}, EncP w P cs → P[j]? = some p → ∃ u u2, cs[3 * j]? = some u ∧ cs[3 * j + 1]? = some (.int .i64 p.2.1) ∧ cs[3 * j + 2]? = some u2 ∧ AltM w u p.1 ∧ NotM w u2 p.2.2 := by
 intro P
 induction P with
 | nil => intro cs j p _ hj; simp at hj
 | cons y P ih =>
  intro cs j p h hj
  obtain ⟨x, k, cs', rfl, h1, h2, h⟩ := h
  cases j with
  | zero => simp at hj; subst hj; exact ⟨x, k, rfl, rfl, rfl, h1, h2⟩
  | succ j =>
   obtain ⟨x2, k2, q0, q1, q2, h3⟩ := ih h (by simpa using hj)
   refine ⟨x2, k2, ?_, ?_, ?_, h3⟩
   ·rw [show 3 * (j + 1) = 3 * j + 1 + 1 + 1 by omega]; simpa using q0
   ·rw [show 3 * (j + 1) + 1 = 3 * j + 1 + 1 + 1 + 1 by omega]; simpa using q1
   ·rw [show 3 * (j + 1) + 2 = 3 * j + 2 + 1 + 1 + 1 by omega]; simpa using q2
theorem EncP.set {w : World} : ∀ {P : List PRD} {cs : List Value} {j : Nat} {p : PRD} {u : Value} {A : List (List SY)}, EncP w P cs → P[j]? = some p → AltM w u A → EncP w (P.set j (A, p.2)) (cs.set (3 * j) u) := by
 intro P
 induction P with
 | nil => intro cs j p u A _ hj; simp at hj
 | cons y P ih =>
  intro cs j p u A h hj hA
  obtain ⟨x, k, cs', rfl, h1, h2, h⟩ := h
  cases j with
  | zero => simp at hj; subst hj; exact ⟨u, k, cs', rfl, hA, h2, h⟩
  | succ j =>
   have := ih h (by simpa using hj) hA
   rw [show 3 * (j + 1) = 3 * j + 1 + 1 + 1 by omega]
   exact ⟨x, k, _, rfl, h1, h2, this⟩
def EncA (w : World) : List (List SY) → List Value → Prop
 | [], cs => cs = []
 | l :: A, cs => ∃ u cs', cs = u :: cs' ∧ SyM w u l ∧ EncA w A cs'
theorem EncA.len {w : World} : ∀ {A : List (List SY)} {cs : List Value}, EncA w A cs → cs.length = A.length := by
 intro A
 induction A with
 | nil => intro cs h; have : cs = [] := h; subst this; rfl
 | cons l A ih => intro cs h; obtain ⟨u, cs', rfl, -, h⟩ := h; have := ih h; simp [this]
theorem EncA.one {w : World} : ∀ {A : List (List SY)} {cs : List Value}, EncA w A cs → ∀ u ∈ cs, u.oneCell' = true := by
 intro A
 induction A with
 | nil => intro cs h u hu; have : cs = [] := h; subst this; cases hu
 | cons l A ih =>
  intro cs h u hu
  obtain ⟨x, cs', rfl, h1, h⟩ := h
  rcases List.mem_cons.1 hu with rfl | hu
  ·exact h1.one
  exact ih h u hu
theorem EncA.later {w X : World} (b : Below w.heap.size w X) : ∀ {A : List (List SY)} {cs : List Value}, EncA w A cs → EncA X A cs := by
 intro A
 induction A with
 | nil => intro cs h; exact h
 | cons l A ih => intro cs h; obtain ⟨u, cs', rfl, h1, h⟩ := h; exact ⟨u, cs', rfl, h1.later b, ih h⟩
theorem EncA.snoc {w : World} {u : Value} {l : List SY} (hu : SyM w u l) : ∀ {A : List (List SY)} {cs : List Value}, EncA w A cs → EncA w (A ++ [l]) (cs ++ [u]) := by
 intro A
 induction A with
 | nil => intro cs h; have : cs = [] := h; subst this; exact ⟨u, [], rfl, hu, rfl⟩
 | cons y A ih => intro cs h; obtain ⟨x, cs', rfl, h1, h⟩ := h; exact ⟨x, _, rfl, h1, ih h⟩
theorem EncA.at {w : World} : ∀ {A : List (List SY)} {cs : List Value} {j : Nat} {l : List SY}, EncA w A cs → A[j]? = some l → ∃ u, cs[j]? = some u ∧ SyM w u l := by
 intro A
 induction A with
 | nil => intro cs j l _ hj; simp at hj
 | cons y A ih =>
  intro cs j l h hj
  obtain ⟨x, cs', rfl, h1, h⟩ := h
  cases j with
  | zero => simp at hj; subst hj; exact ⟨x, rfl, h1⟩
  | succ j => obtain ⟨u, q, h3⟩ := ih h (by simpa using hj); exact ⟨u, by simpa using q, h3⟩
theorem SyM.take {w : World} {a : Option Addr} {n c : Nat} {l : List SY} (h : SyM w (.slice a n c) l) {i : Nat} (hi : i ≤ l.length) : SyM w (.slice a i c) (l.take i) := by
 obtain ⟨a', c', e, h1, h2, h3⟩ := h
 injection e with e1 e2 e3
 subst e1; subst e3
 have hl : (l.take i).length = i := by rw [List.length_take]; omega
 refine ⟨a, c, by rw [hl], by omega, h2, fun j s hj => ?_⟩
 rw [List.getElem?_take] at hj
 split at hj
 ·exact h3 j s hj
 ·cases hj
theorem int_info9 : (Tryz.prog.info? 3).map (fun i => (i.zero, i.size, i.bytes)) = some (some (.int .i64 0), 1, 8) := by kernel_rfl
theorem int_append {w : World} {base n : Nat} {v : Value} {xs : List Value} (own : w.ownsRow base 3 1 v n xs) (hb : base ≤ w.heap.size) {g : Nat} {x : Value} (hx : w.heap[g]? = some (.cells #[x] 3)) (h1 : x.oneCell' = true) (hs : n ≤ 100000) :
  ∃ v' w', (Builtin.append_ #[52, 52] 52 #[v, .slice (some ⟨g, 0, none⟩) 1 1]).run Tryz.prog w = .ok v' w' ∧ w'.ownsRow base 3 1 v' (n + 1) (xs ++ [x]) ∧ w.grownBy w' v.ownBlock := by
 obtain ⟨ti, hi0, hz0, hz1, hz2⟩ := info_parts int_info9
 obtain ⟨v', w', hr, h2, h3, -, -⟩ := run_append_own_at (P := Tryz.prog) w base 52 52 3 ti _ 1 8 Tryz.underlying52 hi0 hz0 hz1 hz2 rfl (by omega) v n xs own ⟨g, 0, none⟩ 1 1 [x] rfl (fun j u hu => by
  match j, hu with
  | 0, hu => simp at hu; subst hu; simp [World.cell?, Addr.add, hx]) (by simpa using h1) (by unfold maxLen; omega) (by omega) hb
 exact ⟨v', w', hr, h2, h3⟩
theorem refLefts_l (v : Value) (g : GR) (n : Int) (w : World) (h : GrM w v g) :
  Calls Tryz.prog 25 #[v, .int .i64 n] w (LfR w g n) := by
 have CA := zx (fun W (bW : Below w.heap.size w W) => refAll_l v g W (h.later bW))
 obtain ⟨a, c, aK, cK, rfl, hp, -⟩ := id h
 obtain ⟨P, K⟩ := g
 simp only at hp ⊢
 obtain ⟨a0, c0, e0, hc1, hc2, h3⟩ := id hp
 injection e0 with e1 e2 e3
 subst e1; subst e3
 unfold maxLen at hc2
 have H3 := zx h3
 generalize K.length = nK at *
 clear h hp h3 e2
 have hall : Hid ((xw (P, K)).length = if yo P = true then P.length else 0) := by
  show _ = _
  unfold xw
  split <;> simp [nu_len]
 go_enter Tryz.func25, Tryz.ntmps25
 go_wp2_with fail
 refine (zy CA _ (Below.new1 _)).mono ?_
 rintro e w2 ⟨v2, rfl, hb2, b2⟩
 have hk2 := nkept b2
 obtain ⟨y0, y1, -, -⟩ := yZ hk2
 have B2 := zx (zJ (Below.new1 _) b2)
 have ce2 := ceOwn (enc := Value.bool) hb2
 obtain ⟨a2, c2, rfl, hs1, hs2, -⟩ := id ce2
 unfold maxLen at hs2
 have NOT : Hid (¬ (0 ≤ n ∧ n < ((xw (P, K)).length : Int)) → ∀ x, ¬ leftP (P, K) n x) := by
  rintro hn x ⟨h1, i, p, al, rfl, hq, -⟩
  simp only at h1 hq
  rw [zy hall, if_pos h1] at hn
  have := (List.getElem?_eq_some_iff.1 hq).1
  omega
 clear CA b2 hb2
 by_cases h0 : n < 0
 ·have b0 : decide (n < 0) = true := decide_eq_true h0
  have FN := zx (zy NOT (by omega))
  clear NOT h0
  go_wp2_with fail
  go_ret
  exact LfR.none (zy FN) (zy B2)
 ·obtain ⟨i, rfl⟩ := Int.eq_ofNat_of_zero_le (show 0 ≤ n by omega)
  have b0 : decide ((i : Int) < 0) = false := decide_eq_false h0
  by_cases hn : (xw (P, K)).length ≤ i
  ·have b1 : decide (((xw (P, K)).length : Int) ≤ (i : Int)) = true := decide_eq_true (by omega)
   have b3 : decide ((xw (P, K)).length ≤ i) = true := decide_eq_true hn
   have FN := zx (zy NOT (by omega))
   clear NOT h0 hn
   go_wp2_with fail
   go_ret
   exact LfR.none (zy FN) (zy B2)
  ·have b1 : decide (((xw (P, K)).length : Int) ≤ (i : Int)) = false := decide_eq_false (by omega)
   have b3 : decide ((xw (P, K)).length ≤ i) = false := decide_eq_false hn
   have hg : yo P = true := by
    cases hg : yo P with
    | true => rfl
    | false =>
     have := zy hall
     rw [hg, if_neg (by simp)] at this
     omega
   have el : (xw (P, K)).length = P.length := by have := zy hall; rw [hg] at this; simpa using this
   have ea : xw (P, K) = nuL P := by unfold xw; rw [if_pos hg]
   rw [el] at ce2 hs1 b1 b3 hn ⊢
   rw [ea] at ce2
   obtain ⟨-, h60, h8, h40, ok, -⟩ := gram_ok hg
   have HC2 := zx ce2
   have hiP : i < P.length := by omega
   obtain ⟨p, hip⟩ : ∃ p, P[i]? = some p := ⟨P[i], by simp⟩
   obtain ⟨gp, off, u, u2, rfl, hgp, q0, q1, q2, hA, -⟩ := zy H3 i p hip
   obtain ⟨aA, cA, rfl, hA1, hA2⟩ := hA.form
   unfold maxLen at hA2
   have hmp := List.mem_of_getElem? hip
   have hp8 := h8 p hmp
   have HAL := zx hA
   have OKP := zx (fun a ha s hs h2 => ok p hmp a ha s hs h2)
   have H40 := zx (fun a ha => h40 p hmp a ha)
   have FIN : Hid (∀ left, LfT (nuL P) p.1 P.length p.1.length 0 left → ∀ x, x ∈ numL left P.length ↔ leftP (P, K) (i : Int) x) := by
    intro left hL x
    rw [numL_mem]
    constructor
    ·rintro ⟨m, hm, h1, rfl⟩
     rcases (hL.iff m).1 h1 with ⟨al, ha, hx⟩ | ⟨al, -, m', hm', -⟩
     ·exact ⟨hg, i, p, al, rfl, hip, List.mem_of_mem_take ha, hx⟩
     ·omega
    ·rintro ⟨-, i', p', al, e, hp', ha, hx⟩
     obtain rfl : i = i' := by omega
     simp only at hp'
     rw [hip] at hp'
     injection hp' with hp'
     subst hp'
     obtain ⟨m, s, hs, h2, h3, h4⟩ := lefL_iff.1 hx
     have := ok p hmp al ha s (List.mem_of_getElem? hs) h2
     obtain ⟨y, rfl⟩ := Int.eq_ofNat_of_zero_le (show 0 ≤ x by omega)
     exact ⟨y, by omega, (hL.iff y).2 (.inl ⟨al, by rw [List.take_length]; exact ha, hx⟩), rfl⟩
   have LF0 := zx (LfT.first (nuL P) p.1 P.length)
   obtain ⟨ti, hi0, hz0, hz1, hz2⟩ := info_parts bool_info
   have HK2 := zx hk2
   have w2l : w.heap.size < w2.heap.size := zY y0
   have i3 : i * 3 = 3 * i := by omega
   clear H3 hall NOT h0 hg el ea h8 h40 ok hip hmp q1 q2 hA ce2 hk2
   go_wp2_with (at_make; refine wpList_make_full _ rfl _ _ 49 rfl w2.heap.size 4 ti _ 1 Tryz.underlying49 hi0 hz0 hz1 .i64 .i64 _ _ P.length rfl rfl rfl rfl (by rw [hz2]; omega) (by unfold maxLen; omega) (Nat.le_refl _) ?_; intro w3 hown hg3)
   rw [show (Value.bool false).cells = #[.bool false] from rfl, made_bool] at hown
   have B3 : Hid (Below w2.heap.size w2 w3) := ⟨hg3.os, hg3.tape, hg3.output, hg3.size, fun k hk => hg3.block k hk (by simp)⟩
   have HO : Hid (BoV w3 w2.heap.size (.slice (some ⟨w2.heap.size, 0, none⟩) P.length P.length) (List.replicate P.length false)) := by
    show w3.ownsRow _ _ _ _ _ _
    rw [List.map_replicate, List.length_replicate]; exact hown
   clear hown hg3
   generalize hgm : w2.heap.size = gm at *
   have HGM := zx hgm
   clear hgm
   have yy0 := ((zy B3).cell (p := ⟨w.heap.size, 0, none⟩) w2l).trans y0
   clear y0 y1
   go_wp2_with fail
   go_loopw [7] (fun i wr => ∃ (j : Nat) (L : List Bool), j ≤ p.1.length ∧ i = .int .i64 (j : Int) ∧ Hid (LfT (nuL P) p.1 P.length j 0 L) ∧ Hid (BoV wr gm (.slice (some ⟨gm, 0, none⟩) P.length P.length) L) ∧ Hid (Below gm w2 wr)) (fun i _ => p.1.length - (intOf i).toNat)
   case atStart => exact ⟨0, _, Nat.zero_le _, rfl, LF0, HO, B3⟩
   case round =>
    clear HO B3 LF0 yy0
    obtain ⟨j, L0, hj, rfl, hR0, hO0, hB0⟩ := hrel
    have y0 := ((zy hB0).block _ w2l).trans (zy HK2)
    obtain ⟨y0, y1, -, -⟩ := yZ y0
    have BW : Below w.heap.size w wr := (zy B2).trans ((zy hB0).mono (by omega))
    have r0 := (BW.cell (p := ⟨gp, off + 3 * i, none⟩) hgp).trans q0
    by_cases hlt : j < p.1.length
    ·obtain ⟨l, hjl⟩ : ∃ l, p.1[j]? = some l := ⟨p.1[j], by simp [hlt]⟩
     obtain ⟨gA, oA, aS, cS, rfl, hgA, s0, hSy, hS1, hS2⟩ := (zy HAL).get hjl
     unfold maxLen at hS2
     have HJL := zx hjl
     have hl40 := zy H40 l (List.mem_of_getElem? hjl)
     have OKL := zx (fun s hs h2 => zy OKP l (List.mem_of_getElem? hjl) s hs h2)
     have HSY := zx hSy
     have s1 := (BW.cell (p := ⟨gA, oA + j, none⟩) hgA).trans s0
     have bj : (j : Int) < (p.1.length : Int) := by omega
     clear hjl hSy s0 BW
     generalize hWr : wr = W1 at *
     clear hWr
     go_wp2_with fail
     go_loopw [9] (fun i wr => ∃ (m : Nat) (L : List Bool), m ≤ l.length ∧ i = .int .i64 (m : Int) ∧ Hid (LfT (nuL P) p.1 P.length j m L) ∧ Hid (BoV wr gm (.slice (some ⟨gm, 0, none⟩) P.length P.length) L) ∧ Hid (Below gm w2 wr)) (fun i _ => l.length - (intOf i).toNat)
     case atStart => exact ⟨0, L0, Nat.zero_le _, rfl, hR0, hO0, hB0⟩
     case round =>
      clear hR0 hO0 hB0 y0 y1 r0 s1
      obtain ⟨m, L, hm, rfl, hR1, hO1, hB1⟩ := hrel
      have BW : Below w.heap.size w wr := (zy B2).trans ((zy hB1).mono (by omega))
      have hLn := (zy hR1).len
      by_cases hlt1 : m < l.length
      ·obtain ⟨s, hml⟩ : ∃ s, l[m]? = some s := ⟨l[m], by simp [hlt1]⟩
       obtain ⟨gS, oS, rfl, hgS, t0, t2⟩ := (zy HSY).get hml
       have CO := zx (only_l _ _ (nuL P) (l.take m) wr ((zy HC2).later ((zy hB1).mono (by rw [zy HGM]; exact Nat.le_refl _))) (((zy HSY).later BW).take hm))
       have m3 : m * 3 = 3 * m := by omega
       obtain ⟨sk, sr, sn⟩ := s
       simp only at t0 t2
       have gml : gm < wr.heap.size := ((zy hO1).lt gm rfl).2
       cases hnu : qa (nuL P) (l.take m) with
       | false =>
        have NX := zx ((zy hR1).skip (zy HJL) (fun x ⟨s', h1, h2, h3, h4⟩ => by rw [hnu] at h4; cases h4))
        rw [hnu] at CO
        clear hnu hR1 hml t0 t2
        go_wp2_with fail
        refine (zy CO).mono ?_
        rintro e w5 ⟨rfl, b5⟩
        have HB5 := zx ((zy hB1).trans (b5.mono (Nat.le_of_lt gml)))
        have HO5 := zx ((zy hO1).later b5)
        clear CO b5 hO1 hB1
        go_wp2_with fail
        all_goals try go_quiet (fail)
        all_goals try go_wp2_with fail
        exact ⟨⟨m + 1, L, by omega, by simp, NX, HO5, HB5⟩, by simp [intOf]; omega⟩
       | true =>
        rw [hnu] at CO
        by_cases h2 : sk = 2
        ·obtain ⟨o1, o2⟩ := zy OKL _ (List.mem_of_getElem? hml) h2
         simp only at o1 o2
         obtain ⟨y, rfl⟩ := Int.eq_ofNat_of_zero_le o1
         have hyP : y < P.length := by omega
         have NX := zx ((zy hR1).put (zy HJL) hyP ⟨_, hml, h2, rfl, hnu⟩)
         have bk : (sk == 2) = true := by simp [h2]
         clear hnu hR1 hml h2 o1 o2
         go_wp2_with fail
         refine (zy CO).mono ?_
         rintro e w5 ⟨rfl, b5⟩
         have HB5 := (zy hB1).trans (b5.mono (Nat.le_of_lt gml))
         have HO5 := (zy hO1).later b5
         obtain ⟨v0, f0⟩ := HO5.cl hLn hyP
         obtain ⟨hO6, -⟩ := HO5.set hLn y true
         have HO6 := zx hO6
         have HB6 := zx (HB5.setCell (p := ⟨gm, y, none⟩) (Nat.le_refl _) (.bool true))
         have BW5 := BW.trans (b5.mono BW.size)
         have u0 : ∀ d, (w5.drewN d).cell? ⟨gS, oS + 3 * m, none⟩ = some (.int .i64 sk) := fun d => (BW5.cell (p := ⟨gS, oS + 3 * m, none⟩) hgS).trans t0
         have u2 : ∀ d, (w5.drewN d).cell? ⟨gS, oS + 3 * m + 2, none⟩ = some (.int .i64 (y : Int)) := fun d => (BW5.cell (p := ⟨gS, oS + 3 * m + 2, none⟩) hgS).trans t2
         have u00 := u0 0
         have u20 := u2 0
         simp only [World.drewN_zero] at u00 u20
         have by_ : (y : Int) < (P.length : Int) := by omega
         have bm : (m : Int) < (l.length : Int) := by omega
         generalize L.getD y false = lv at *
         clear CO b5 hO1 hB1 HB5 HO5 hO6 BW5 BW t0 t2
         go_wp2_with fail
         all_goals try go_quiet (fail)
         all_goals try go_wp2_with fail
         exact ⟨⟨m + 1, _, by omega, by simp, NX, HO6, HB6⟩, by simp [intOf]; omega⟩
        ·have NX := zx ((zy hR1).skip (zy HJL) (fun x ⟨s', h1, h3, h4, h5⟩ => by rw [hml] at h1; injection h1 with h1; subst h1; exact h2 h3))
         have bk : (sk == 2) = false := by simp [h2]
         clear hnu hR1 hml h2
         go_wp2_with fail
         refine (zy CO).mono ?_
         rintro e w5 ⟨rfl, b5⟩
         have HB5 := zx ((zy hB1).trans (b5.mono (Nat.le_of_lt gml)))
         have HO5 := zx ((zy hO1).later b5)
         have BW5 := BW.trans (b5.mono BW.size)
         have u0 : ∀ d, (w5.drewN d).cell? ⟨gS, oS + 3 * m, none⟩ = some (.int .i64 sk) := fun d => (BW5.cell (p := ⟨gS, oS + 3 * m, none⟩) hgS).trans t0
         have u00 := u0 0
         simp only [World.drewN_zero] at u00
         have bm : (m : Int) < (l.length : Int) := by omega
         clear CO b5 hO1 hB1 BW5 BW t0 t2
         go_wp2_with fail
         all_goals try go_quiet (fail)
         all_goals try go_wp2_with fail
         exact ⟨⟨m + 1, L, by omega, by simp, NX, HO5, HB5⟩, by simp [intOf]; omega⟩
      ·obtain rfl : m = l.length := by omega
       have NX := zx ((zy hR1).next (zy HJL))
       have y0 := ((zy hB1).block _ w2l).trans (zy HK2)
       obtain ⟨y0, y1, -, -⟩ := yZ y0
       have r0 := (BW.cell (p := ⟨gp, off + 3 * i, none⟩) hgp).trans q0
       clear hR1 BW
       go_wp2_with fail
       exact ⟨⟨j + 1, L, by omega, by simp, NX, hO1, hB1⟩, by simp [intOf]; omega⟩
    ·obtain rfl : j = p.1.length := by omega
     have FX := zx (zy FIN L0 (zy hR0))
     have hLn := (zy hR0).len
     have BW1 := zx BW
     have wl : w.heap.size ≤ wr.heap.size := BW.size
     have gml : gm < wr.heap.size := ((zy hO0).lt gm rfl).2
     clear FIN hR0 BW
     generalize hWr : wr = W4 at *
     clear hWr
     go_wp2_with fail
     go_loopw [11, 12] (fun o i wr => ∃ (q : Nat), q ≤ P.length ∧ i = .int .i64 (q : Int) ∧ Hid (InV wr W4.heap.size o (numL L0 q)) ∧ Hid (Below W4.heap.size W4 wr)) (fun _ i _ => P.length - (intOf i).toNat)
     case atStart => exact ⟨0, Nat.zero_le _, rfl, InV.nil _ _, Below.refl _ _⟩
     case round =>
      obtain ⟨q, hq, rfl, hI, hB⟩ := hrel
      by_cases hlt1 : q < P.length
      ·obtain ⟨v0, f0⟩ := ((zy hO0).later (zy hB)).cl hLn hlt1
       have SC := zx (numL_succ L0 q)
       have bq : (q : Int) < (P.length : Int) := by omega
       have nle := numL_le L0 q
       cases hx : L0.getD q false with
       | false =>
        rw [hx] at v0
        have NX : Hid (numL L0 (q + 1) = numL L0 q) := by show _ = _; rw [zy SC, hx]; rfl
        have HI2 : Hid (InV wr W4.heap.size u11 (numL L0 (q + 1))) := by show InV _ _ _ _; rw [zy NX]; exact zy hI
        clear hx SC NX hI
        go_wp2_with fail
        exact ⟨⟨q + 1, by omega, by simp, HI2, hB⟩, by simp [intOf]; omega⟩
       | true =>
        rw [hx] at v0
        have NX : Hid (numL L0 (q + 1) = numL L0 q ++ [(q : Int)]) := by show _ = _; rw [zy SC, hx]; rfl
        obtain ⟨v', w', hap, own', gr'⟩ := int_append (World.ownsRow.alloc (zy hI) (.cells #[.int .i64 (q : Int)] 3)) (by simp; have := (zy hB).size; omega) (heap_alloc_new wr (.cells #[.int .i64 (q : Int)] 3)) rfl (by omega)
        have HI2 : Hid (InV w' W4.heap.size v' (numL L0 (q + 1))) := by
         show World.ownsRow _ _ _ _ _ _ _
         rw [zy NX, List.length_append, List.length_singleton, List.map_append]; exact own'
        have HB2 := zx (((zy hB).alloc (zy hB).size (.cells #[.int .i64 (q : Int)] 3)).grown gr' (by simp; have := (zy hB).size; omega) (fun k hk => ((zy hI).lt k hk).1))
        clear hx SC NX hI own' gr'
        go_wp2_with (at_builtin; refine app_run rfl _ _ 52 52 rfl rfl _ _ rfl rfl hap ?_)
        exact ⟨⟨q + 1, by omega, by simp, HI2, HB2⟩, by simp [intOf]; omega⟩
      ·obtain rfl : q = P.length := by omega
       go_wp2_with fail
       go_ret
       exact ⟨_, _, rfl, own_mono (zy hI) wl, numL_rise _ _, zy FX, (zy BW1).trans ((zy hB).mono wl)⟩
theorem refEmpty_l (v lv : Value) (g : GR) (l : List SY) (w : World) (h : GrM w v g) (hl : SyM w lv l) :
  Calls Tryz.prog 26 #[v, lv] w fun e w' => e = .returned (.bool (emptyB g l)) ∧ Below w.heap.size w w' := by
 have CM := zx (fun W (bW : Below w.heap.size w W) => may8_l v g W (h.later bW))
 have CA := zx (fun W (bW : Below w.heap.size w W) => refAll_l v g W (h.later bW))
 have CO := zx (fun v1 is W (bW : Below w.heap.size w W) h1 => only_l v1 lv is l W h1 (hl.later bW))
 obtain ⟨a, c, aK, cK, rfl, hp, -⟩ := id h
 obtain ⟨la, lc, rfl, -, -, -⟩ := id hl
 obtain ⟨P, K⟩ := g
 unfold emptyB
 simp only at CM hp ⊢
 clear h hp hl
 generalize K.length = nK at *
 generalize l.length = nl at *
 generalize P.length = nP at *
 go_enter Tryz.func26, Tryz.ntmps26
 go_wp2_with fail
 refine (zy CM _ (Below.new1 _)).mono ?_
 rintro e w1 ⟨rfl, b1⟩
 have hk1 := nkept b1
 obtain ⟨y0, y1, -, -⟩ := yZ hk1
 have B1 := zx (zJ (Below.new1 _) b1)
 clear CM b1
 go_wp2_with fail
 refine (zy CA _ (zy B1)).mono ?_
 rintro e w2 ⟨v2, rfl, hb2, b2⟩
 have B2 := zx (zJ (zy B1) b2)
 have CO2 := zx (zy CO v2 (xw (P, K)) w2 (zy B2) (ceOwn (enc := Value.bool) hb2))
 have FIN : Hid ((yo P && qa (xw (P, K)) l) = (yo P && qa (nuL P) l)) := by
  show _ = _
  unfold xw
  cases hg : yo P <;> simp [hg]
 clear CA CO hb2 b2 y0 y1 hk1
 go_wp2_with fail
 refine (zy CO2).mono ?_
 rintro e w3 ⟨rfl, b3⟩
 clear CO2
 cases hg : yo P with
 | false =>
  have FB : Hid ((yo P && qa (nuL P) l) = false) := by show _ = _; rw [hg]; rfl
  clear FIN hg
  generalize qa (xw (P, K)) l = z at *
  go_wp2_with fail
  all_goals try go_quiet (fail)
  all_goals try go_wp2_with fail
  go_ret
  exact ⟨zZ (zy FB).symm, zJ (zy B2) b3⟩
 | true =>
  have FB : Hid ((yo P && qa (nuL P) l) = qa (xw (P, K)) l) := by
   have := zy FIN
   show _ = _
   rw [← this, hg]; rfl
  clear FIN hg
  generalize qa (xw (P, K)) l = z at *
  go_wp2_with fail
  all_goals try go_quiet (fail)
  all_goals try go_wp2_with fail
  go_ret
  exact ⟨zZ (zy FB).symm, zJ (zy B2) b3⟩
theorem lefts_any (v : Value) (g : GR) (n : Int) (w : World) (h : GrM w v g) : Calls Tryz.prog 24 #[v, .int .i64 n] w fun e w' => LfR w g n e w' := by
 cases hg : yo g.1 with
 | false => exact nLefts_no v g n w h (.inl hg)
 | true =>
  by_cases h0 : n < 0
  ·exact nLefts_no v g n w h (.inr (.inl h0))
  ·by_cases h1 : (g.1.length : Int) ≤ n
   ·exact nLefts_no v g n w h (.inr (.inr h1))
   ·obtain ⟨i, rfl⟩ := Int.eq_ofNat_of_zero_le (show 0 ≤ n by omega)
    obtain ⟨p, hp⟩ : ∃ p, g.1[i]? = some p := ⟨g.1[i]'(by omega), by simp⟩
    exact nLefts_yes v g i p w h hg hp
theorem eqG_self {α : Type} (e : α → α → Bool) (he : ∀ x y, e x y = true ↔ x = y) (l : List α) : eqG e l l = true := (eqG_iff e he l l).2 rfl
theorem nullTells_walk (v : Value) (g : GR) (n : Int) (va : Value) (la : List SY) (w : World) (h : GrM w v g) (hf : ∀ p ∈ g.1, ∀ l ∈ p.1, ∀ s ∈ l, zW s.2.2)
  (ha : SyM w va la) (hfa : ∀ s ∈ la, zW s.2.2) :
  Calls Tryz.prog 5 #[v, .int .i64 n, va] w fun e w' => e = .returned (.bool true) ∧ Below w.heap.size w w' := by
 have CA := zx (fun W => awake9_l W)
 have C1 := zx (fun W (bW : Below w.heap.size w W) => nAll_l v g W (h.later bW))
 have C2 := zx (fun W (bW : Below w.heap.size w W) => refAll_l v g W (h.later bW))
 have C3 := zx (fun W (bW : Below w.heap.size w W) => lefts_any v g n W (h.later bW))
 have C4 := zx (fun W (bW : Below w.heap.size w W) => refLefts_l v g n W (h.later bW))
 have C5 := zx (fun W (bW : Below w.heap.size w W) => refEmpty_l v va g la W (h.later bW) (ha.later bW))
 have C6 := zx (fun W (bW : Below w.heap.size w W) => nEmpty_l v va g la W (h.later bW) ((ha.later bW).syl hfa))
 have CB := zx (fun v1 v2 l W h1 h2 => bools_l v1 v2 l l W h1 h2)
 have CI := zx (fun v1 v2 l W h1 h2 => ints_l v1 v2 l l W h1 h2)
 obtain ⟨a, c, aK, cK, rfl, hp, -⟩ := id h
 have CF := zx (fun W (bW : Below w.heap.size w W) => few_l a c g.2.length cK aK g.1 W ((hp.later bW).prl hf))
 obtain ⟨aa, ca, rfl, ha1, ha2, -⟩ := id ha
 unfold maxLen at ha2
 generalize g.2.length = nK at *
 generalize g.1.length = nP at *
 generalize la.length = nl at *
 generalize emptyB g la = eb at *
 clear h hp hf ha hfa
 go_enter Tryz.func5, Tryz.ntmps5
 go_wp2_with fail
 have G0 := heap_alloc_new w (.cells #[.slice a nP c, .slice aK nK cK] 32)
 refine (zy CA _).mono ?_
 clear CA
 rintro e w1 ⟨rfl, b1⟩
 have G1 := (b1.block _ (Array.getElem?_eq_some_iff.1 G0).1).trans G0
 obtain ⟨y0, y1, -, -⟩ := yZ G1
 have B1 := zx (zJ (Below.new1 _) b1)
 clear b1 G0
 go_wp2_with fail
 refine (zy CF _ (zy B1)).mono ?_
 clear CF
 rintro e w2 ⟨⟨r, rfl⟩, b2⟩
 have G2 := (b2.block _ (Array.getElem?_eq_some_iff.1 G1).1).trans G1
 have B2 := zx (zJ (zy B1) b2)
 clear b2 G1 B1 y0 y1
 obtain ⟨y0, y1, -, -⟩ := yZ G2
 cases r with
 | false =>
  go_wp2_with fail
  go_ret
  exact ⟨rfl, zy B2⟩
 | true =>
  by_cases h60 : 60 < nl
  ·have d1 : decide (60 < (nl : Int)) = true := decide_eq_true (by omega)
   have d2 : decide (60 < nl) = true := decide_eq_true h60
   clear h60
   go_wp2_with fail
   go_ret
   exact ⟨rfl, zy B2⟩
  ·have d1 : decide (60 < (nl : Int)) = false := decide_eq_false (by omega)
   have d2 : decide (60 < nl) = false := decide_eq_false h60
   clear h60
   go_wp2_with fail
   have KS := zx (fun (X : World) (b : Below w2.heap.size w2 X) => show X.cell? ⟨w.heap.size, 0, none⟩ = some (.slice a nP c) ∧ X.cell? ⟨w.heap.size, 1, none⟩ = some (.slice aK nK cK) from ⟨(b.cell (zY y0)).trans y0, (b.cell (zY y1)).trans y1⟩)
   refine wp_region_held_drew (S := (fun w' => w'.cell? ⟨w.heap.size, 0, none⟩ = some (.slice a nP c) ∧ w'.cell? ⟨w.heap.size, 1, none⟩ = some (.slice aK nK cK))) (by kernel_rfl) ⟨y0, y1⟩ (fun hHeld => ?_)
   refine tkh 0 ?_ rfl (by kernel_rfl) (fun _ _ _ h => h) ?_ (by assumption) ?_
   rotate_left
   ·intro w hSw; obtain ⟨k1, k2⟩ := hSw; (try clear hSw); go_simp; (try with_reducible rfl)
   try simp only [Act.put, List.getElem_toArray, List.getElem_cons_succ, List.getElem_cons_zero, List.setIfInBounds_toArray, List.set_cons_zero, List.set_cons_succ]
   refine tkh 2 ?_ rfl (by kernel_rfl) (fun _ _ _ h => h) ?_ (by assumption) ?_
   rotate_left
   ·intro w hSw; obtain ⟨k1, k2⟩ := hSw; (try clear hSw); go_simp; (try with_reducible rfl)
   try simp only [Act.put, List.getElem_toArray, List.getElem_cons_succ, List.getElem_cons_zero, List.setIfInBounds_toArray, List.set_cons_zero, List.set_cons_succ]
   refine wpAnyH_ready (rs := [1]) (by kernel_rfl) (by simp) ?_
   refine AllReadyH.cons rfl (fun K hK => ?_) AllReadyH.nil
   go_simp
   refine (zy C1 _ (zJ (zy B2) (zk (k := 1)))).mono ?_
   rintro e w3 ⟨v3, rfl, hb3, b3⟩
   have k1 := zJ (zk (w := w2) (k := 1)) b3
   refine hK.out _ _ (zy KS _ k1) (fun hHeld => ?_)
   clear hK K
   try simp only [Act.put, List.getElem_toArray, List.getElem_cons_succ, List.getElem_cons_zero, List.setIfInBounds_toArray, List.set_cons_zero, List.set_cons_succ]
   refine wpAnyH_ready (rs := [3]) (by kernel_rfl) (by simp) ?_
   refine AllReadyH.cons rfl (fun K hK => ?_) AllReadyH.nil
   go_simp
   refine (zy C2 _ (zJ (zy B2) k1)).mono ?_
   rintro e w4 ⟨v4, rfl, hb4, b4⟩
   have k2 := zJ k1 b4
   refine hK.out _ _ (zy KS _ k2) (fun hHeld => ?_)
   clear hK K
   try simp only [Act.put, List.getElem_toArray, List.getElem_cons_succ, List.getElem_cons_zero, List.setIfInBounds_toArray, List.set_cons_zero, List.set_cons_succ]
   have CB1 := zx (zy CB v3 v4 (xw g) w4 ((ceOwn (enc := Value.bool) hb3).later b4) (ceOwn (enc := Value.bool) hb4))
   rw [eqG_self _ (by simp) (xw g)] at CB1
   clear CB hb3 hb4
   refine wpAnyH_ready (rs := [4]) (by kernel_rfl) (by simp) ?_
   refine AllReadyH.cons rfl (fun K hK => ?_) AllReadyH.nil
   go_simp
   refine (zy CB1).mono ?_
   rintro e w5 ⟨rfl, b5⟩
   have k3 := zJ k2 b5
   refine hK.out _ _ (zy KS _ k3) (fun hHeld => ?_)
   clear hK K
   try simp only [Act.put, List.getElem_toArray, List.getElem_cons_succ, List.getElem_cons_zero, List.setIfInBounds_toArray, List.set_cons_zero, List.set_cons_succ]
   refine tkh 5 ?_ rfl (by kernel_rfl) (fun _ _ _ h => h) ?_ (by assumption) ?_
   rotate_left
   ·intro w hSw; obtain ⟨k1, k2⟩ := hSw; (try clear hSw); go_simp; (try with_reducible rfl)
   try simp only [Act.put, List.getElem_toArray, List.getElem_cons_succ, List.getElem_cons_zero, List.setIfInBounds_toArray, List.set_cons_zero, List.set_cons_succ]
   refine wpAnyH_done (by kernel_rfl) ?_ _
   have G5 := (k3.block _ (Array.getElem?_eq_some_iff.1 G2).1).trans G2
   have B5 := zx (zJ (zy B2) k3)
   clear CB1 C1 C2 KS hHeld k1 k2 k3 b3 b4 b5 y0 y1 G2 B2
   obtain ⟨y0, y1, -, -⟩ := yZ G5
   go_wp2_with fail
   have KS := zx (fun (X : World) (b : Below w5.heap.size w5 X) => show X.cell? ⟨w.heap.size, 0, none⟩ = some (.slice a nP c) ∧ X.cell? ⟨w.heap.size, 1, none⟩ = some (.slice aK nK cK) from ⟨(b.cell (zY y0)).trans y0, (b.cell (zY y1)).trans y1⟩)
   refine wp_region_held_drew (S := (fun w' => w'.cell? ⟨w.heap.size, 0, none⟩ = some (.slice a nP c) ∧ w'.cell? ⟨w.heap.size, 1, none⟩ = some (.slice aK nK cK))) (by kernel_rfl) ⟨y0, y1⟩ (fun hHeld => ?_)
   refine tkh 0 ?_ rfl (by kernel_rfl) (fun _ _ _ h => h) ?_ (by assumption) ?_
   rotate_left
   ·intro w hSw; obtain ⟨k1, k2⟩ := hSw; (try clear hSw); go_simp; (try with_reducible rfl)
   try simp only [Act.put, List.getElem_toArray, List.getElem_cons_succ, List.getElem_cons_zero, List.setIfInBounds_toArray, List.set_cons_zero, List.set_cons_succ]
   refine tkh 1 ?_ rfl (by kernel_rfl) (fun _ _ _ h => h) ?_ (by assumption) ?_
   rotate_left
   ·intro w hSw; obtain ⟨k1, k2⟩ := hSw; (try clear hSw); go_simp; (try with_reducible rfl)
   try simp only [Act.put, List.getElem_toArray, List.getElem_cons_succ, List.getElem_cons_zero, List.setIfInBounds_toArray, List.set_cons_zero, List.set_cons_succ]
   refine tkh 3 ?_ rfl (by kernel_rfl) (fun _ _ _ h => h) ?_ (by assumption) ?_
   rotate_left
   ·intro w hSw; obtain ⟨k1, k2⟩ := hSw; (try clear hSw); go_simp; (try with_reducible rfl)
   try simp only [Act.put, List.getElem_toArray, List.getElem_cons_succ, List.getElem_cons_zero, List.setIfInBounds_toArray, List.set_cons_zero, List.set_cons_succ]
   refine tkh 4 ?_ rfl (by kernel_rfl) (fun _ _ _ h => h) ?_ (by assumption) ?_
   rotate_left
   ·intro w hSw; obtain ⟨k1, k2⟩ := hSw; (try clear hSw); go_simp; (try with_reducible rfl)
   try simp only [Act.put, List.getElem_toArray, List.getElem_cons_succ, List.getElem_cons_zero, List.setIfInBounds_toArray, List.set_cons_zero, List.set_cons_succ]
   refine wpAnyH_ready (rs := [2]) (by kernel_rfl) (by simp) ?_
   refine AllReadyH.cons rfl (fun K hK => ?_) AllReadyH.nil
   go_simp
   refine (zy C3 _ (zJ (zy B5) (zk (k := 1)))).mono ?_
   rintro e w6 ⟨v6, L6, rfl, hi6, hp6, hm6, b6⟩
   have k1 := zJ (zk (w := w5) (k := 1)) b6
   refine hK.out _ _ (zy KS _ k1) (fun hHeld => ?_)
   clear hK K
   try simp only [Act.put, List.getElem_toArray, List.getElem_cons_succ, List.getElem_cons_zero, List.setIfInBounds_toArray, List.set_cons_zero, List.set_cons_succ]
   refine wpAnyH_ready (rs := [5]) (by kernel_rfl) (by simp) ?_
   refine AllReadyH.cons rfl (fun K hK => ?_) AllReadyH.nil
   go_simp
   refine (zy C4 _ (zJ (zy B5) k1)).mono ?_
   rintro e w7 ⟨v7, L7, rfl, hi7, hp7, hm7, b7⟩
   have k2 := zJ k1 b7
   refine hK.out _ _ (zy KS _ k2) (fun hHeld => ?_)
   clear hK K
   try simp only [Act.put, List.getElem_toArray, List.getElem_cons_succ, List.getElem_cons_zero, List.setIfInBounds_toArray, List.set_cons_zero, List.set_cons_succ]
   obtain rfl : L6 = L7 := rise_eq hp6 hp7 (fun x => (hm6 x).trans (hm7 x).symm)
   have CI1 := zx (zy CI v6 v7 L6 w7 ((ceOwn (enc := Value.int .i64) hi6).later b7) (ceOwn (enc := Value.int .i64) hi7))
   rw [eqG_self _ (by simp) L6] at CI1
   clear CI hi6 hi7 hp6 hp7 hm6 hm7
   refine wpAnyH_ready (rs := [6]) (by kernel_rfl) (by simp) ?_
   refine AllReadyH.cons rfl (fun K hK => ?_) AllReadyH.nil
   go_simp
   refine (zy CI1).mono ?_
   rintro e w8 ⟨rfl, b8⟩
   have k3 := zJ k2 b8
   refine hK.out _ _ (zy KS _ k3) (fun hHeld => ?_)
   clear hK K
   try simp only [Act.put, List.getElem_toArray, List.getElem_cons_succ, List.getElem_cons_zero, List.setIfInBounds_toArray, List.set_cons_zero, List.set_cons_succ]
   refine tkh 7 ?_ rfl (by kernel_rfl) (fun _ _ _ h => h) ?_ (by assumption) ?_
   rotate_left
   ·intro w hSw; obtain ⟨k1, k2⟩ := hSw; (try clear hSw); go_simp; (try with_reducible rfl)
   try simp only [Act.put, List.getElem_toArray, List.getElem_cons_succ, List.getElem_cons_zero, List.setIfInBounds_toArray, List.set_cons_zero, List.set_cons_succ]
   refine wpAnyH_done (by kernel_rfl) ?_ _
   have G8 := (k3.block _ (Array.getElem?_eq_some_iff.1 G5).1).trans G5
   have B8 := zx (zJ (zy B5) k3)
   clear CI1 C3 C4 KS hHeld k1 k2 k3 b6 b7 b8 y0 y1 G5 B5
   obtain ⟨y0, y1, -, -⟩ := yZ G8
   go_wp2_with fail
   refine (zy C5 _ (zy B8)).mono ?_
   rintro e w9 ⟨rfl, b9⟩
   have G9 := (b9.block _ (Array.getElem?_eq_some_iff.1 G8).1).trans G8
   have B9 := zx (zJ (zy B8) b9)
   clear C5 b9 y0 y1 G8 B8
   obtain ⟨y0, y1, -, -⟩ := yZ G9
   go_wp2_with fail
   refine (zy C6 _ (zy B9)).mono ?_
   rintro e w10 ⟨rfl, b10⟩
   have B10 := zx (zJ (zy B9) b10)
   clear C6 b10
   cases eb
   all_goals
    go_wp2_with fail
    go_ret
    exact ⟨rfl, zy B10⟩
end Go.Proofs.YtnfgobgflcmepaaGreatDoor.Nl
