/- Parts of the proof of NullMore that stand ahead of it (36: NlLf, NlSame, NlAwake, NlLJoin, NlMore, NlMoreB, NlMoreC, NlLLefts, NlLMore). -/
import Derived.Test.YtnfgobgflcmepaaGreatDoorNullMoreM34
import Derived.Test.YtnfgobgflcmepaaGreatDoorNullMoreM27
import Derived.Test.YtnfgobgflcmepaaGreatDoorNullMoreM33
import Derived.Deep.RegionHeld3
import Derived.Deep.RegionWith
import Derived.Deep.AppendLies
import Derived.Test.YtnfgobgflcmepaaGreatDoorNullMoreM18
set_option linter.unusedVariables false
set_option linter.unusedSimpArgs false
set_option maxRecDepth 20000
set_option maxHeartbeats 16000000
namespace Go.Proofs.YtnfgobgflcmepaaGreatDoor.Nl
open Go.RowKit Go.Shelf Go.Proofs.YtnfgobgflcmepaaGreatDoor.T Go.Proofs.YtnfgobgflcmepaaGreatDoor.R Go.Proofs.YtnfgobgflcmepaaGreatDoor.F
def lefL (is : List Bool) : List SY → List Int
 | [] => []
 | s :: l => if s.1 = 2 then s.2.2 :: (if nulS is s = true then lefL is l else []) else []
theorem lef_is {P : List PRD} {E : List Int} (hE : ∀ x, x ∈ E ↔ isN P x) : ∀ l : List SY, kw E l = lefL (nuL P) l := by
 intro l
 induction l with
 | nil => rfl
 | cons s l ih =>
  unfold kw lefL
  by_cases h2 : s.1 = 2
  ·rw [if_pos h2, if_pos h2, ih]
   by_cases hn : s.2.2 ∈ E
   ·rw [if_pos hn, if_pos (nulS_nu.2 ⟨h2, (hE _).1 hn⟩)]
   ·rw [if_neg hn, if_neg (fun c => hn ((hE _).2 (nulS_nu.1 c).2))]
  ·rw [if_neg h2, if_neg h2]
def leftP (g : GR) (n x : Int) : Prop := Zx g.1 = true ∧ ∃ (i : Nat) (p : PRD) (a : List SY), n = (i : Int) ∧ g.1[i]? = some p ∧ a ∈ p.1 ∧ x ∈ lefL (nuL g.1) a
def LfR (w : World) (g : GR) (n : Int) (e : Ending) (w' : World) : Prop := ∃ v L, e = .returned v ∧ InV w' w.heap.size v L ∧ List.Pairwise (· < ·) L ∧ (∀ x, x ∈ L ↔ leftP g n x) ∧ Below w.heap.size w w'
theorem InV.nil (w : World) (base : Nat) : InV w base (.slice none 0 0) [] := World.ownsRow_nil w base _ _
theorem LfR.none {w w' : World} {g : GR} {n : Int} (h : ∀ x, ¬ leftP g n x) (b : Below w.heap.size w w') : LfR w g n (.returned (.slice none 0 0)) w' :=
 ⟨_, [], rfl, InV.nil _ _, List.Pairwise.nil, fun x => ⟨fun c => (by cases c), fun c => absurd c (h x)⟩, b⟩
structure LfI (w : World) (b bl k1 : Nat) (E pre0 : List Int) (v : Value) (l : List SY) (ds : List Deferred) (pre : List Int) (W : World) : Prop where
 emp : SetV W b E
 set : SetV W bl (pre0 ++ pre)
 sy : SyL W w.heap.size v l
 bx : W.heap[bl + 1]? = some (boxS bl)
 c1 : W.heap[k1]? = some (boxS b)
 c2 : W.heap[k1 + 1]? = some (boxY v)
 bel : Below w.heap.size w W
 mrk : Marks (bl + 2) W ds
 ml : ∀ D, markD D ∈ ds → D < k1
theorem LfI.below {w W W' : World} {b bl k1 : Nat} {E pre0 pre : List Int} {v : Value} {l : List SY} {ds : List Deferred} (h : LfI w b bl k1 E pre0 v l ds pre W) (k : Below (k1 + 2) W W') (hb : b < bl) (hbl : bl + 2 ≤ k1) (hw : w.heap.size ≤ bl) : LfI w b bl k1 E pre0 v l ds pre W' :=
 ⟨h.emp.later k (by omega), h.set.later k (by omega), h.sy.later (k.mono (by omega)), (k.block _ (by omega)).trans h.bx, (k.block _ (by omega)).trans h.c1, (k.block _ (by omega)).trans h.c2, h.bel.trans (k.mono (by omega)),
  h.mrk.keep ds fun D hD hW => (k.block D (by have := h.ml D hD; omega)).trans hW, h.ml⟩
theorem LfI.put {w W W' : World} {b bl k1 : Nat} {E pre0 pre : List Int} {v : Value} {l : List SY} {ds : List Deferred} {x : Int} (h : LfI w b bl k1 E pre0 v l ds pre W) (hs : SetV W' bl ((pre0 ++ pre) ++ [x])) (k : Bo bl W W') (hb : b < bl) (hbl : bl + 2 ≤ k1) (hw : w.heap.size ≤ bl) (hW : k1 + 2 ≤ W.heap.size) : LfI w b bl k1 E pre0 v l ds (pre ++ [x]) W' := by
 have kb : ∀ g, g < W.heap.size → g ≠ bl → W'.heap[g]? = W.heap[g]? := fun g h1 h2 => k.block g h1 (fun e => h2 (by injection e))
 have kB : Below w.heap.size W W' := ⟨k.os, k.tape, k.output, k.size, fun i hi => kb i (by omega) (by omega)⟩
 exact ⟨h.emp.keep (kb _ (by omega) (by omega)), by rw [← List.append_assoc]; exact hs, h.sy.later kB, (kb _ (by omega) (by omega)).trans h.bx, (kb _ (by omega) (by omega)).trans h.c1, (kb _ (by omega) (by omega)).trans h.c2, h.bel.trans kB,
  h.mrk.keep ds fun D hD hX => (kb D (by have := h.ml D hD; omega) (by have := (h.mrk.lt ds D hD).1; omega)).trans hX, h.ml⟩
theorem InV.off {W X : World} {base base' : Nat} {v : Value} {L : List Int} (h : InV W base v L) (hb : base' ≤ base) (k : ∀ (k : Nat) (o : Obj), W.heap[k]? = some o → (∀ x, o ≠ Obj.deferred x) → X.heap[k]? = some o) : InV X base' v L := by
 refine ⟨h.1, ?_⟩
 rcases h.2 with hn | ⟨g, cap, cur, e, h1, hg, rest⟩
 ·exact .inl hn
 ·exact .inr ⟨g, cap, cur, e, Nat.le_trans hb h1, k g _ hg (fun x c => by cases c), rest⟩
theorem box_cell {W : World} {k b : Nat} (h : W.heap[k]? = some (boxS b)) : W.cell? ⟨k, 0, none⟩ = some (.map (some b)) := by simp [World.cell?, h]
def lfT (g0 : Value) (i : Int) (wz b bz : Nat) (sP : Value) (nP : Int) (pp sA : Value) (nA k : Int) (u8 u9 u36 u37 u38 u39 u40 u41 u42 u43 u44 u45 u46 : Value) : Array Value :=
 #[g0, .int .i64 i, .pointer (some ⟨wz, 0, none⟩), undef, .slice none 0 0, .map (some b), .pointer (some ⟨bz + 1, 0, none⟩), undef, u8, u9, g0, .bool true, .bool false, .bool false, .int .i64 i, .bool false, .bool false, .bool false, .int .i64 i,
  .pointer (some ⟨wz, 0, none⟩), sP, .int .i64 nP, .bool false, .bool false, .pointer (some ⟨wz, 0, none⟩), sP, .map (some b), .map (some bz), .pointer (some ⟨wz, 0, none⟩), sP, .int .i64 i, pp, pp, sA, .int .i64 nA, .int .i64 k, u36, u37, u38, u39, u40, u41, u42, u43, u44, u45, u46, undef, undef, undef]
def LfL (w w2 : World) (b : Nat) (E : List Int) (A : List (List SY)) (g0 : Value) (i : Int) (sP : Value) (nP : Int) (pp sA : Value) (a' : Act) (W' : World) : Prop :=
 ∃ (k : Nat) (ki : Int) (ds : List Deferred) (pre : List Int) (u8 u9 u36 u37 u38 u39 u40 u41 u42 u43 u44 u45 u46 : Value),
  ki = (k : Int) ∧ a' = { tmps := lfT g0 i w.heap.size b w2.heap.size sP nP pp sA (A.length : Nat) ki u8 u9 u36 u37 u38 u39 u40 u41 u42 u43 u44 u45 u46, defers := ds } ∧ k ≤ A.length ∧ Hid (pre = (A.take k).flatMap (kw E)) ∧ pre.length ≤ 40 * k ∧
  Hid (SetV W' b E) ∧ Hid (SetV W' w2.heap.size pre) ∧ Hid (W'.heap[w2.heap.size + 1]? = some (boxS w2.heap.size)) ∧ Hid (Below w.heap.size w W') ∧ w2.heap.size + 2 ≤ W'.heap.size ∧ Hid (Marks (w2.heap.size + 2) W' ds)
attribute [local go_sem] Oper.semAt_some
theorem nLefts_yes (v : Value) (g : GR) (i : Nat) (p : PRD) (w : World) (h : GrM w v g) (hg : Zx g.1 = true) (hi : g.1[i]? = some p) :
  Calls Tryz.prog 24 #[v, .int .i64 (i : Int)] w fun e w' => LfR w g (i : Int) e w' := by
 have CM := zx (fun W (bW : Below w.heap.size w W) => fMayM_l v g W (h.later bW))
 obtain ⟨a, c, aK, cK, rfl, hp, -⟩ := id h
 obtain ⟨P, K⟩ := g
 simp only at CM hp hg hi ⊢
 rw [hg] at CM
 obtain ⟨-, h60, h8, h40, ok, hf⟩ := XW hg
 have hmm := @run_makeMap Tryz.prog
 have hx : ∀ args w, (callFunc 91 args).run Tryz.prog w = .ok (.enter 91 args) w := enters_of Tryz.func91 (by kernel_rfl) rfl
 have hpr := hp.prl hf
 have HP := zx hpr
 have CE := zx (fun W (bW : Below w.heap.size w W) => emptyOf_l w.heap.size _ P W ((zy HP).later bW) bW.size h60 h8 ok)
 have hiL := (List.getElem?_eq_some_iff.1 hi).1
 have hmem := List.mem_of_getElem? hi
 have h8p := h8 p hmem
 have H40 := zx (h40 p hmem)
 have HFT := zx (hf p hmem)
 have HLP : Hid (∀ x, leftP (P, K) (i : Int) x ↔ ∃ a ∈ p.1, x ∈ lefL (nuL P) a) := by
  intro x
  constructor
  ·rintro ⟨-, j, q, al, e, hq, ha, hx⟩
   obtain rfl : i = j := by omega
   simp only at hq
   rw [hi] at hq
   injection hq with hq
   subst hq
   exact ⟨al, ha, hx⟩
  ·rintro ⟨al, ha, hx⟩
   exact ⟨hg, i, p, al, rfl, hi, ha, hx⟩
 obtain ⟨a0, c0, e0, hc1, hc2, h3⟩ := hpr
 injection e0 with e1 e2 e3
 subst e1; subst e3
 obtain ⟨gp, off, u, m, x, n', kk, rfl, hgp, q0, q1, q2, hA⟩ := h3 i p hi
 obtain ⟨aA, cA, rfl, hA1, hA2, -⟩ := id hA
 have HA := zx hA
 have Q0 := fun W (bW : Below w.heap.size w W) => (bW.cell (p := ⟨gp, off + 3 * i, none⟩) hgp).trans q0
 unfold maxLen at hc2 hA2
 clear h hp hg h60 h8 h40 ok hf h3 e2 hA hi hmem HP
 have bn : decide ((i : Int) < 0) = false := decide_eq_false (by omega)
 have bm : decide ((P.length : Int) ≤ (i : Int)) = false := decide_eq_false (by omega)
 have i3 : i * 3 = 3 * i := by omega
 generalize K.length = nK at *
 refine (callsIn_wide (n := 8)).1 ?_
 refine callsIn_of_wp_marks Tryz.func24 rfl trivial ?_ rfl
 simp only [Tryz.ntmps24, List.size_toArray, List.length_cons, List.length_nil, Nat.reduceAdd, Nat.reduceSub, Array.replicate_succ, Array.replicate_zero, List.push_toArray, List.append_toArray, List.nil_append, List.cons_append]
 gi_wp2_with fail
 refine ⟨trivial, ?_⟩
 refine (callsIn_wide.2 (zy CM _ (Below.new1 _))).mono ?_
 rintro e w1 ⟨rfl, b1⟩
 clear CM
 have hk1 := nkept b1
 obtain ⟨y0, y1, -, -⟩ := zo hk1
 have B1 := zx (yk (Below.new1 _) b1)
 clear b1
 gi_wp2_with fail
 refine ⟨trivial, ?_⟩
 refine (callsIn_wide.2 (zy CE _ (zy B1))).mono ?_
 rintro e w2 ⟨b, E, rfl, hS, hE, hwb, b2⟩
 clear CE y0 y1
 have hk2 := (b2.block _ (Array.getElem?_eq_some_iff.1 hk1).1).trans hk1
 have hlt2 := (Array.getElem?_eq_some_iff.1 hk2).1
 have bz : Below w2.heap.size w2 ((w2.alloc (.map #[] 0)).alloc (boxS w2.heap.size)) := (Below.new1 _).alloc (by simp) _
 have hk3 := (bz.block _ hlt2).trans hk2
 obtain ⟨y0, y1, -, -⟩ := zo hk3
 have B2 := zx (yk (zy B1) b2)
 have B3 := zx (yk (zy B2) bz)
 have s2 := (zy B2).size
 have qq := Q0 _ (zy B3)
 have HS := zx hS
 have HE := zx hE
 clear hS hE b2 hk1 hk2 hk3 B1 Q0 q0 q1 q2
 gi_wp2_with fail
 have hbl := (zy HS).lt
 have Z1 : Hid (SetV ((w2.alloc (.map #[] 0)).alloc (boxS w2.heap.size)) b E) := (zy HS).later bz hbl
 have Z2 : Hid (SetV ((w2.alloc (.map #[] 0)).alloc (boxS w2.heap.size)) w2.heap.size []) := (SetV.new w2).keep ((Below.new1 _).block _ (by simp))
 have Z3 : Hid (((w2.alloc (.map #[] 0)).alloc (boxS w2.heap.size)).heap[w2.heap.size + 1]? = some (boxS w2.heap.size)) := by
  have := heap_alloc_new (w2.alloc (.map #[] 0)) (boxS w2.heap.size)
  rwa [World.size_alloc] at this
 have sz : ((w2.alloc (.map #[] 0)).alloc (boxS w2.heap.size)).heap.size = w2.heap.size + 2 := by simp
 clear bz HS B2 qq y0 y1 hmm
 generalize ((w2.alloc (.map #[] 0)).alloc (boxS w2.heap.size)) = Z at *
 refine wpIn_loop (LfL w w2 b E p.1 (.agg #[.slice (some ⟨gp, off, none⟩) P.length c, .slice aK nK cK]) (i : Int) (.slice (some ⟨gp, off, none⟩) P.length c) (P.length : Nat) (.pointer (some ⟨gp, off + 3 * i, none⟩)) (.slice aA p.1.length cA))
  (fun a' _ => p.1.length - (intOf (a'.tmps.getD 35 undef)).toNat) ?_ ?_
 ·exact ⟨0, 0, [], [], undef, undef, undef, undef, undef, undef, undef, undef, undef, undef, undef, undef, undef, rfl, rfl, Nat.zero_le _, rfl, Nat.zero_le _, Z1, Z2, Z3, B3, by omega, trivial⟩
 ·rintro a' W' ⟨k, ki, ds, pre, u8, u9, u36, u37, u38, u39, u40, u41, u42, u43, u44, u45, u46, rfl, rfl, hk, hO, hlen, hE1, hL, hbx, hB, hsz, hM⟩
  clear Z1 Z2 Z3 B3 sz
  unfold lfT
  by_cases hlt : k < p.1.length
  ·obtain ⟨a', c', e, -, -, h3⟩ := (zy HA).later (zy hB)
   injection e with e1 e2 e3
   subst e1; subst e3
   have hkl : p.1[k]? = some p.1[k] := by simp [hlt]
   obtain ⟨g2, off2, u2, rfl, hg2, r0, hsy⟩ := h3 k p.1[k] hkl
   have hl40 := zy H40 _ (List.getElem_mem hlt)
   have hfl := zx (zy HFT _ (List.getElem_mem hlt))
   have ST : Hid ((p.1.take (k + 1)).flatMap (kw E) = (p.1.take k).flatMap (kw E) ++ kw E p.1[k]) := by
    show _ = _
    rw [List.take_succ_eq_append_getElem hlt, List.flatMap_append]; simp
   obtain ⟨a5, c5, rfl, -⟩ := id hsy
   have HSY := zx hsy
   have CL := zx (lefts_l b a5 (p.1[k]).length c5 W')
   have hll := lef_len (E := E) p.1[k]
   clear h3 hkl e2 hsy
   generalize p.1[k] = l at *
   gi_wp2_with fail
   refine ⟨trivial, ?_⟩
   refine (callsIn_wide.2 (zy CL)).mono ?_
   rintro e w3 ⟨rfl, hw3⟩
   subst hw3
   clear CL
   have sz3 : ((W'.alloc (boxS b)).alloc (boxY (.slice a5 l.length c5))).heap.size = W'.heap.size + 2 := by simp
   have I0 : LfI w b w2.heap.size W'.heap.size E pre (.slice a5 l.length c5) l ds [] ((W'.alloc (boxS b)).alloc (boxY (.slice a5 l.length c5))) := by
    have bb : Below W'.heap.size W' ((W'.alloc (boxS b)).alloc (boxY (.slice a5 l.length c5))) := (Below.new1 _).alloc (by simp) _
    refine ⟨(zy hE1).later bb (zy hE1).lt, by rw [List.append_nil]; exact (zy hL).later bb (zy hL).lt, (zy HSY).later (bb.mono (by omega)), (bb.block _ (by omega)).trans (zy hbx), ?_, ?_, yk (zy hB) bb, (zy hM).later bb, fun D hD => (Array.getElem?_eq_some_iff.1 ((zy hM).lt ds D hD).2).1⟩
    ·exact ((Below.new1 _).block _ (by simp)).trans (heap_alloc_new W' _)
    ·have := heap_alloc_new (W'.alloc (boxS b)) (boxY (.slice a5 l.length c5))
     rwa [World.size_alloc] at this
   clear hE1 hL hbx hB hM HSY
   gi_wp2_with fail
   generalize hZ3 : ((W'.alloc (boxS b)).alloc (boxY (.slice a5 l.length c5))) = Z3 at *
   clear hZ3
   have HI0 := zx I0
   clear I0
   refine rangeMore (n := 8) (by omega) (gf := 91) (cs := #[.pointer (some ⟨W'.heap.size + 1, 0, none⟩), .pointer (some ⟨W'.heap.size, 0, none⟩)]) rfl hx w2.heap.size (by rw [sz3]; omega) (LfI w b w2.heap.size W'.heap.size E pre (.slice a5 l.length c5) l ds)
    (fun q x => ∃ rest, q ++ x :: rest = kw E l) (fun xs => xs = kw E l) (fun q X X' hi k => hi.below (by rw [sz3] at k; exact k) hbl (by omega) s2) (zy HI0)
    (fun x => { tmps := lfT (.agg #[.slice (some ⟨gp, off, none⟩) P.length c, .slice aK nK cK]) (i : Int) w.heap.size b w2.heap.size (.slice (some ⟨gp, off, none⟩) P.length c) (P.length : Nat) (.pointer (some ⟨gp, off + 3 * i, none⟩)) (.slice (some ⟨g2, off2, none⟩) p.1.length cA) (p.1.length : Nat) (k : Int) (.slice a5 l.length c5) (.int .i64 x) (.bool true) (.pointer (some ⟨g2, off2 + k, none⟩)) (.slice a5 l.length c5) (.map (some b)) (.slice a5 l.length c5) (leftsF W'.heap.size (W'.heap.size + 1)) (.int .i64 x) u43 u44 u45 u46, defers := [] })
    ?assign ?body ?iter ?done
   case assign =>
    intro l' x X K' hK
    unfold lfT at hK
    gi_wp2
    exact hK
   case body =>
    rintro l' q x X hI ⟨rest, hx1⟩ hX
    rw [sz3] at hX
    have hql : q.length < l.length := by
     rw [← hx1, List.length_append, List.length_cons] at hll
     omega
    have hxl : x ∈ kw E l := by rw [← hx1]; simp
    obtain ⟨sx, hsx, -, rfl⟩ := lef_sub hxl
    have CP := zx (nput_l w2.heap.size (pre ++ q) sx.2.2 X hI.set (zy hfl sx hsx) (by rw [List.length_append]; omega))
    have q0 : X.cell? ⟨w2.heap.size + 1, 0, none⟩ = some (.map (some w2.heap.size)) := by simp [World.cell?, hI.bx]
    have HI := zx hI
    clear hI hsx hxl hx1
    generalize sx.2.2 = z at *
    unfold lfT
    gi_wp2_with fail
    refine ⟨trivial, ?_⟩
    refine (CallsIn.inRound l' (callsIn_wide.2 (zy CP))).mono ?_
    rintro e X2 ⟨rfl, hs2, hg2⟩
    gi_wp2_with fail
    exact ⟨hg2, (zy HI).put hs2 hg2 hbl (by omega) s2 hX⟩
   case iter =>
    intro lr X J hs hb' hJI hJb hY h0
    rw [sz3] at hs
    refine (lefts_iter 7 (by omega) lr W'.heap.size (W'.heap.size + 1) b w.heap.size w2.heap.size E (.slice a5 l.length c5) l X J (fun q X1 hj => ?_) hJb (fun q x X1 h1 h2 h3 => hY q x X1 h1 h2 h3) (by omega) h0).mono ?_
    ·have := hJI _ _ hj
     exact ⟨this.emp, this.sy, this.c1, this.c2⟩
    ·rintro e X' ⟨hv, hj⟩
     exact ⟨hv, _, rfl, hj⟩
   case done =>
    intro xs X hE' hI hD'
    subst hE'
    have MK : Hid (Marks (w2.heap.size + 2) X (markD Z3.heap.size :: ds)) := ⟨Z3.heap.size, rfl, by rw [sz3]; omega, hD', fun D' hD2 e => by have := hI.ml D' hD2; rw [sz3] at e; omega, hI.mrk⟩
    have hXs : w2.heap.size + 2 ≤ X.heap.size := by have := (Array.getElem?_eq_some_iff.1 hI.c1).1; omega
    have HI := zx hI
    have NX : Hid (pre ++ kw E l = (p.1.take (k + 1)).flatMap (kw E)) := by
     show _ = _
     rw [zy ST, zy hO]
    clear hI hD' HI0
    gi_wp2_with fail
    refine ⟨⟨k + 1, (k : Int) + 1, markD Z3.heap.size :: ds, pre ++ kw E l, _, _, _, _, _, _, _, _, _, _, _, _, _, by omega, rfl, by omega, NX, by rw [List.length_append]; omega, (zy HI).emp, (zy HI).set, (zy HI).bx, (zy HI).bel, hXs, MK⟩, ?_⟩
    simp [intOf]; omega
  ·obtain rfl : k = p.1.length := by omega
   have q0 : W'.cell? ⟨w2.heap.size + 1, 0, none⟩ = some (.map (some w2.heap.size)) := by
    have := zy hbx
    simp [World.cell?, this]
   have CK := zx (keysN_l w2.heap.size W')
   have bb : Below W'.heap.size W' (W'.alloc (boxS w2.heap.size)) := Below.new1 _
   have CS := zx (sortedN_l w2.heap.size W'.heap.size pre (W'.alloc (boxS w2.heap.size)) ((zy hL).later bb (zy hL).lt) (box_cell (heap_alloc_new W' (boxS w2.heap.size))) (by omega))
   have B4 := zx (yk (zy hB) bb)
   have M4 := zx ((zy hM).later bb)
   have MEM : Hid (∀ x, x ∈ pre ↔ leftP (P, K) (i : Int) x) := by
    intro x
    rw [zy HLP x, zy hO, List.take_of_length_le (Nat.le_refl _), List.mem_flatMap]
    constructor
    ·rintro ⟨al, ha, hx⟩
     exact ⟨al, ha, by rw [← lef_is (zy HE)]; exact hx⟩
    ·rintro ⟨al, ha, hx⟩
     exact ⟨al, ha, by rw [lef_is (zy HE)]; exact hx⟩
   have s4 : w2.heap.size + 2 ≤ (W'.alloc (boxS w2.heap.size)).heap.size := by simp; omega
   clear hE1 hL hbx hB hM hO HA H40 HFT HLP HE hx
   gi_wp2_with fail
   refine ⟨trivial, ?_⟩
   refine (callsIn_wide.2 (zy CK)).mono ?_
   rintro e w5 ⟨rfl, hw5⟩
   subst hw5
   gi_wp2_with fail
   refine ⟨trivial, ?_⟩
   refine (callsIn_wide.2 (zy CS)).mono ?_
   rintro e w6 ⟨v6, L, rfl, hp6, hm6, hv6, b6⟩
   have M6 := (zy M4).later b6
   have B6 := yk (zy B4) b6
   have s6 := b6.size
   have H6 := zx (And.intro hp6 (And.intro hm6 hv6))
   clear CK CS hp6 hm6 hv6 b6
   gi_wp2_with fail
   refine Marks.leave _ _ M6 (by omega) fun X bX kX => ?_
   obtain ⟨hp6, hm6, hv6⟩ := zy H6
   refine ⟨_, results_tmp rfl _ _ _, v6, L, rfl, hv6.off (by omega) kX, hp6, fun x => (hm6 x).trans (zy MEM x), B6.trans (bX.mono (by omega))⟩
def eqG {α : Type} (e : α → α → Bool) : List α → List α → Bool
 | [], [] => true
 | x :: l, y :: m => e x y && eqG e l m
 | _, _ => false
theorem eqG_drop {α : Type} (e : α → α → Bool) {l m : List α} {k : Nat} (h : k < l.length) (h2 : k < m.length) : eqG e (l.drop k) (m.drop k) = (e l[k] m[k] && eqG e (l.drop (k + 1)) (m.drop (k + 1))) := by
 rw [List.drop_eq_getElem_cons h, List.drop_eq_getElem_cons h2]; rfl
theorem eqG_len {α : Type} (e : α → α → Bool) : ∀ (l m : List α), l.length ≠ m.length → eqG e l m = false := by
 intro l
 induction l with
 | nil => intro m h; cases m with
  | nil => simp at h
  | cons => rfl
 | cons x l ih =>
  intro m h
  cases m with
  | nil => rfl
  | cons y m => unfold eqG; rw [ih m (by simpa using h)]; simp
def CeV {α : Type} (enc : α → Value) (w : World) (v : Value) (l : List α) : Prop := ∃ a c, v = .slice a l.length c ∧ l.length ≤ c ∧ c ≤ maxLen ∧ ∀ j b, l[j]? = some b → ∃ g off, a = some ⟨g, off, none⟩ ∧ g < w.heap.size ∧ w.cell? ⟨g, off + j, none⟩ = some (enc b)
theorem CeV.later {α : Type} {enc : α → Value} {w X : World} {v : Value} {l : List α} (h : CeV enc w v l) (k : Below w.heap.size w X) : CeV enc X v l := by
 obtain ⟨a, c, e, h1, h2, h3⟩ := h
 refine ⟨a, c, e, h1, h2, fun j b hj => ?_⟩
 obtain ⟨g, off, ha, hg, hc⟩ := h3 j b hj
 exact ⟨g, off, ha, Nat.lt_of_lt_of_le hg k.size, (k.cell (p := ⟨g, off + j, none⟩) hg).trans hc⟩
theorem ceOwn {α : Type} {enc : α → Value} {w : World} {base : Nat} {t : TypeId} {v : Value} {l : List α} (h : w.ownsRow base t 1 v l.length (l.map enc)) : CeV enc w v l := by
 rcases id h.2 with ⟨rfl, h0⟩ | ⟨g, cap, cur, rfl, hb, hg, hn, hm, hsz, ht⟩
 ·refine ⟨none, 0, by rw [h0], by omega, Nat.zero_le _, fun j b hj => ?_⟩
  have := (List.getElem?_eq_some_iff.1 hj).1; omega
 ·refine ⟨_, cap, rfl, hn, hm, fun j b hj => ⟨g, 0, rfl, (Array.getElem?_eq_some_iff.1 hg).1, ?_⟩⟩
  have := World.ownsRow.cells h (g := g) rfl j (enc b) (by rw [List.getElem?_map, hj]; rfl)
  rwa [Addr.add_lit] at this
theorem ceNew {α : Type} {enc : α → Value} {w : World} {g : Nat} {t : TypeId} {l : List α} (h : w.heap[g]? = some (.cells (l.map enc).toArray t)) (hl : l.length ≤ 1000) : CeV enc w (.slice (some ⟨g, 0, none⟩) l.length l.length) l :=
 ⟨_, l.length, rfl, Nat.le_refl _, by unfold maxLen; omega, fun j b hj => ⟨g, 0, rfl, (Array.getElem?_eq_some_iff.1 h).1, by simp [World.cell?, h, hj]⟩⟩
theorem bools_l (v1 v2 : Value) (l m : List Bool) (w : World) (h1 : CeV Value.bool w v1 l) (h2 : CeV Value.bool w v2 m) :
  Calls Tryz.prog 20 #[v1, v2] w fun e w' => e = .returned (.bool (eqG (fun x y => x == y) l m)) ∧ Below w.heap.size w w' := by
 obtain ⟨a, c, rfl, hc1, hc2, h3⟩ := h1
 obtain ⟨a', c', rfl, hd1, hd2, h3'⟩ := h2
 unfold maxLen at hc2 hd2
 have H1 := zx h3
 have H2 := zx h3'
 clear h3 h3'
 by_cases hl : l.length = m.length
 ·have bl : ((l.length : Int) != (m.length : Int)) = false := by simp [hl]
  have HL := zx hl
  clear hl
  go_enter Tryz.func20, Tryz.ntmps20
  go_wp2_with fail
  go_loopw [5] (fun i wr => ∃ (j : Nat), j ≤ l.length ∧ i = .int .i64 (j : Int) ∧ Hid (eqG (fun x y => x == y) l m = eqG (fun x y => x == y) (l.drop j) (m.drop j)) ∧ Hid (Below w.heap.size w wr)) (fun i _ => l.length - (intOf i).toNat)
  case atStart => exact ⟨0, Nat.zero_le _, rfl, rfl, Below.refl _ _⟩
  case round =>
   obtain ⟨j, hj, rfl, hO, hB⟩ := hrel
   by_cases hlt : j < l.length
   ·have hlt2 : j < m.length := by rw [← zy HL]; exact hlt
    obtain ⟨g, off, rfl, hg, q0⟩ := zy H1 j l[j] (by simp [hlt])
    obtain ⟨g', off', rfl, hg', q1⟩ := zy H2 j m[j] (by simp [hlt2])
    have ST := zx (eqG_drop (fun x y => x == y) hlt hlt2)
    have Q0 : ∀ d, (wr.drewN d).cell? ⟨g, off + j, none⟩ = some (Value.bool l[j]) := fun d => ((zy hB).cell (p := ⟨g, off + j, none⟩) hg).trans q0
    have Q1 : ∀ d, (wr.drewN d).cell? ⟨g', off' + j, none⟩ = some (Value.bool m[j]) := fun d => ((zy hB).cell (p := ⟨g', off' + j, none⟩) hg').trans q1
    have R0 := Q0 0
    have R1 := Q1 0
    simp only [World.drewN_zero] at R0 R1
    clear q0 q1
    generalize l[j] = x at *
    generalize m[j] = y at *
    by_cases hxy : x = y
    ·have bn : (x != y) = false := by simp [hxy]
     have be : (x == y) = true := by simp [hxy]
     have NX : Hid (eqG (fun x y => x == y) l m = eqG (fun x y => x == y) (l.drop (j + 1)) (m.drop (j + 1))) := by
      show _ = _
      rw [zy hO, zy ST, hxy]; simp
     clear hxy hO ST
     go_wp2_with fail
     go_quiet (fail)
     go_wp2_with fail
     exact ⟨⟨j + 1, by omega, by simp, NX, (zy hB).trans zZ⟩, by simp [intOf]; omega⟩
    ·have bn : (x != y) = true := by simpa using hxy
     have be : (x == y) = false := by simpa using hxy
     have NX : Hid (eqG (fun x y => x == y) l m = false) := by
      show _ = _
      have e : (x == y) = false := by simpa using hxy
      rw [zy hO, zy ST, e]; rfl
     clear hxy hO ST
     go_wp2_with fail
     go_quiet (fail)
     go_wp2_with fail
     go_ret
     exact ⟨qw (zy NX).symm, (zy hB).trans zZ⟩
   ·obtain rfl : j = l.length := by omega
    have NX : Hid (eqG (fun x y => x == y) l m = true) := by
     show _ = _
     rw [zy hO, List.drop_eq_nil_of_le (Nat.le_refl _), List.drop_eq_nil_of_le (by rw [zy HL]; exact Nat.le_refl _)]; rfl
    go_wp2_with fail
    go_ret
    exact ⟨qw (zy NX).symm, zy hB⟩
 ·have bl : ((l.length : Int) != (m.length : Int)) = true := by rw [bne_iff_ne]; omega
  have NX := zx (eqG_len (fun x y => x == y) l m hl)
  clear hl H1 H2
  generalize l.length = nl at *
  generalize m.length = nm at *
  go_enter Tryz.func20, Tryz.ntmps20
  go_wp2_with fail
  go_ret
  exact ⟨qw (zy NX).symm, Below.refl _ _⟩
theorem ints_l (v1 v2 : Value) (l m : List Int) (w : World) (h1 : CeV (Value.int .i64) w v1 l) (h2 : CeV (Value.int .i64) w v2 m) :
  Calls Tryz.prog 23 #[v1, v2] w fun e w' => e = .returned (.bool (eqG (fun x y => x == y) l m)) ∧ Below w.heap.size w w' := by
 obtain ⟨a, c, rfl, hc1, hc2, h3⟩ := h1
 obtain ⟨a', c', rfl, hd1, hd2, h3'⟩ := h2
 unfold maxLen at hc2 hd2
 have H1 := zx h3
 have H2 := zx h3'
 clear h3 h3'
 by_cases hl : l.length = m.length
 ·have bl : ((l.length : Int) != (m.length : Int)) = false := by simp [hl]
  have HL := zx hl
  clear hl
  go_enter Tryz.func23, Tryz.ntmps23
  go_wp2_with fail
  go_loopw [5] (fun i wr => ∃ (j : Nat), j ≤ l.length ∧ i = .int .i64 (j : Int) ∧ Hid (eqG (fun x y => x == y) l m = eqG (fun x y => x == y) (l.drop j) (m.drop j)) ∧ Hid (Below w.heap.size w wr)) (fun i _ => l.length - (intOf i).toNat)
  case atStart => exact ⟨0, Nat.zero_le _, rfl, rfl, Below.refl _ _⟩
  case round =>
   obtain ⟨j, hj, rfl, hO, hB⟩ := hrel
   by_cases hlt : j < l.length
   ·have hlt2 : j < m.length := by rw [← zy HL]; exact hlt
    obtain ⟨g, off, rfl, hg, q0⟩ := zy H1 j l[j] (by simp [hlt])
    obtain ⟨g', off', rfl, hg', q1⟩ := zy H2 j m[j] (by simp [hlt2])
    have ST := zx (eqG_drop (fun x y => x == y) hlt hlt2)
    have Q0 : ∀ d, (wr.drewN d).cell? ⟨g, off + j, none⟩ = some ((Value.int .i64) l[j]) := fun d => ((zy hB).cell (p := ⟨g, off + j, none⟩) hg).trans q0
    have Q1 : ∀ d, (wr.drewN d).cell? ⟨g', off' + j, none⟩ = some ((Value.int .i64) m[j]) := fun d => ((zy hB).cell (p := ⟨g', off' + j, none⟩) hg').trans q1
    have R0 := Q0 0
    have R1 := Q1 0
    simp only [World.drewN_zero] at R0 R1
    clear q0 q1
    generalize l[j] = x at *
    generalize m[j] = y at *
    by_cases hxy : x = y
    ·have bn : (x != y) = false := by simp [hxy]
     have be : (x == y) = true := by simp [hxy]
     have NX : Hid (eqG (fun x y => x == y) l m = eqG (fun x y => x == y) (l.drop (j + 1)) (m.drop (j + 1))) := by
      show _ = _
      rw [zy hO, zy ST, hxy]; simp
     clear hxy hO ST
     go_wp2_with fail
     go_quiet (fail)
     go_wp2_with fail
     exact ⟨⟨j + 1, by omega, by simp, NX, (zy hB).trans zZ⟩, by simp [intOf]; omega⟩
    ·have bn : (x != y) = true := by simpa using hxy
     have be : (x == y) = false := by simpa using hxy
     have NX : Hid (eqG (fun x y => x == y) l m = false) := by
      show _ = _
      have e : (x == y) = false := by simpa using hxy
      rw [zy hO, zy ST, e]; rfl
     clear hxy hO ST
     go_wp2_with fail
     go_quiet (fail)
     go_wp2_with fail
     go_ret
     exact ⟨qw (zy NX).symm, (zy hB).trans zZ⟩
   ·obtain rfl : j = l.length := by omega
    have NX : Hid (eqG (fun x y => x == y) l m = true) := by
     show _ = _
     rw [zy hO, List.drop_eq_nil_of_le (Nat.le_refl _), List.drop_eq_nil_of_le (by rw [zy HL]; exact Nat.le_refl _)]; rfl
    go_wp2_with fail
    go_ret
    exact ⟨qw (zy NX).symm, zy hB⟩
 ·have bl : ((l.length : Int) != (m.length : Int)) = true := by rw [bne_iff_ne]; omega
  have NX := zx (eqG_len (fun x y => x == y) l m hl)
  clear hl H1 H2
  generalize l.length = nl at *
  generalize m.length = nm at *
  go_enter Tryz.func23, Tryz.ntmps23
  go_wp2_with fail
  go_ret
  exact ⟨qw (zy NX).symm, Below.refl _ _⟩
theorem aw9_bytes : U.zq aw9 := by
 intro z hz
 simp [aw9] at hz
 omega
theorem aw9_all : qk aw9g = [false, true, false] := by kernel_rfl
theorem aw9_emp : emptyB aw9g [] = true := by kernel_rfl
theorem rise_eq : ∀ {l m : List Int}, l.Pairwise (· < ·) → m.Pairwise (· < ·) → (∀ x, x ∈ l ↔ x ∈ m) → l = m := by
 intro l
 induction l with
 | nil =>
  intro m _ _ h
  cases m with
  | nil => rfl
  | cons y m => exact absurd ((h y).2 List.mem_cons_self) (by simp)
 | cons x l ih =>
  intro m hl hm h
  cases m with
  | nil => exact absurd ((h x).1 List.mem_cons_self) (by simp)
  | cons y m =>
   obtain ⟨hx, hl'⟩ := List.pairwise_cons.1 hl
   obtain ⟨hy, hm'⟩ := List.pairwise_cons.1 hm
   have e : x = y := by
    rcases List.mem_cons.1 ((h x).1 List.mem_cons_self) with h1 | h1
    ·exact h1
    ·rcases List.mem_cons.1 ((h y).2 List.mem_cons_self) with h2 | h2
     ·exact h2.symm
     ·have := hx y h2; have := hy x h1; omega
   subst e
   congr 1
   refine ih hl' hm' fun z => ?_
   have hz := h z
   simp only [List.mem_cons] at hz
   constructor
   ·intro h1
    rcases hz.1 (.inr h1) with h2 | h2
    ·subst h2; have := hx z h1; omega
    ·exact h2
   ·intro h1
    rcases hz.2 (.inr h1) with h2 | h2
    ·subst h2; have := hy z h1; omega
    ·exact h2
theorem aw9_lef {L : List Int} (h1 : L.Pairwise (· < ·)) (h2 : ∀ x, x ∈ L ↔ leftP aw9g 0 x) : L = [1, 2] := by
 refine rise_eq h1 (by simp) fun x => (h2 x).trans ?_
 have hn : nuL aw9g.1 = [false, true, false] := by kernel_rfl
 unfold leftP
 rw [hn]
 constructor
 ·rintro ⟨-, i, p, a, e, hp, ha, hx⟩
  obtain rfl : i = 0 := by omega
  have hp' : p = ([[(2, [], 1), (2, [], 2)]], 0, []) := by simpa [aw9g] using hp.symm
  subst hp'
  simp at ha
  subst ha
  have e2 : lefL [false, true, false] [(2, [], 1), (2, [], 2)] = [1, 2] := by decide
  rw [e2] at hx
  exact hx
 ·intro hx
  refine ⟨aw9_may, 0, ([[(2, [], 1), (2, [], 2)]], 0, []), [(2, [], 1), (2, [], 2)], rfl, rfl, by simp, ?_⟩
  have e2 : lefL [false, true, false] [(2, [], 1), (2, [], 2)] = [1, 2] := by decide
  rw [e2]; exact hx
theorem awake9_l (w : World) : Calls Tryz.prog 18 #[] w fun e w' => e = .returned (.bool true) ∧ Below w.heap.size w w' := by
 have CF := zx (fun W => file_any ⟨#[97, 32, 61, 32, 98, 32, 99, 59, 32, 98, 32, 61, 32, 59, 32, 99, 32, 61, 32, 34, 120, 34, 59]⟩ aw9 (St.of aw9_bytes) (by show 23 ≤ 100000000; omega) W)
 go_enter Tryz.func18, Tryz.ntmps18
 go_wp2_with fail
 refine (zy CF _).mono ?_
 clear CF
 rintro e w1 ⟨fr, b1⟩
 obtain ⟨v1, rfl, fv⟩ := file_is fr aw9_file
 have CO := zx (fun W (bW : Below w1.heap.size w1 W) => of_file 4 (w := W) (D := New w w1) (fv.kept (fun g hg => ⟨hg, bW.block g hg.2⟩) (KR.of bW)) (fun g hg => Nat.lt_of_lt_of_le hg.2 bW.size) (fok_yes aw9_fok))
 obtain ⟨aK, cK, aR, cR, rfl, -⟩ := fv
 have el : ((aw9.length : Nat) : Int) = 23 := rfl
 have n0 : aw9f.1.length = 0 := rfl
 have n1 : aw9f.2.length = 3 := rfl
 rw [n0, n1] at CO ⊢
 rw [el]
 clear fr n0 n1 el
 have HB1 := zx b1
 have s1 := b1.size
 clear b1
 go_wp2_with fail
 refine (zy CO _ (Below.new1 _)).mono ?_
 clear CO
 rintro e w2 ⟨or, b2⟩
 obtain ⟨v2, rfl, gv⟩ := of_is or aw9_flat
 have B2 : Below w1.heap.size w1 w2 := yk (Below.new1 _) b2
 have HB2 := zx (yk (zy HB1) B2)
 have gm := grM_of gv (fun a n c l h => ⟨h.2.1, h.2.2.1⟩)
 have CA := zx (fun W (bW : Below w2.heap.size w2 W) => nAll_l v2 aw9g W (gm.later bW))
 have CL := zx (fun W (bW : Below w2.heap.size w2 W) => nLefts_yes v2 aw9g 0 ([[(2, [], 1), (2, [], 2)]], 0, []) W (gm.later bW) aw9_may rfl)
 have CE := zx (fun W (bW : Below w2.heap.size w2 W) => nEmpty_l v2 nilR aw9g [] W (gm.later bW) (SyL.nil _ _))
 rw [aw9_all] at CA
 rw [aw9_emp] at CE
 obtain ⟨a, c, aK2, cK2, rfl, -⟩ := gm
 have m1 : aw9g.1.length = 3 := rfl
 have m0 : aw9g.2.length = 0 := rfl
 rw [m0, m1] at CA CL CE ⊢
 clear or gv b2 B2 m0 m1
 rw [show ((0 : Nat) : Int) = 0 from rfl] at CL
 go_wp2_with fail
 refine (zy CA _ (Below.new1 _)).mono ?_
 clear CA
 rintro e w3 ⟨v3, rfl, hv3, b3⟩
 have hg3 := nkept b3
 have B3 := zx (yk (Below.new1 (w := w2) _) b3)
 have ce3 := ceOwn (enc := Value.bool) hv3
 obtain ⟨a3, c3, rfl, -⟩ := id ce3
 have l3 : ([false, true, false] : List Bool).length = 3 := rfl
 rw [l3] at ce3 ⊢
 have bn3 : Below w3.heap.size w3 (w3.alloc (.cells #[.bool false, .bool true, .bool false] 4)) := Below.new1 _
 have CB := zx (bools_l _ _ [false, true, false] [false, true, false] (w3.alloc (.cells #[.bool false, .bool true, .bool false] 4)) (ce3.later bn3) (ceNew (enc := Value.bool) (l := [false, true, false]) (heap_alloc_new w3 _) (by simp)))
 rw [show eqG (fun x y => x == y) [false, true, false] [false, true, false] = true from rfl, l3] at CB
 clear ce3 hv3 l3 b3
 go_wp2_with fail
 refine (zy CB).mono ?_
 clear CB
 rintro e w4 ⟨rfl, b4⟩
 have hg4 : w4.heap[w2.heap.size]? = some (.cells #[.slice a 3 c, .slice aK2 0 cK2] 32) := ((yk bn3 b4).block _ (Array.getElem?_eq_some_iff.1 hg3).1).trans hg3
 have B4 := zx (yk (zy B3) (yk bn3 b4))
 obtain ⟨y0, y1, -, -⟩ := zo hg4
 clear hg3 bn3 b4 B3
 go_wp2_with fail
 refine (zy CL _ (zy B4)).mono ?_
 clear CL
 rintro e w5 ⟨v5, L, rfl, hv5, hp5, hm5, b5⟩
 obtain rfl := aw9_lef hp5 hm5
 have ce5 := ceOwn (enc := Value.int .i64) hv5
 obtain ⟨a5, c5, rfl, -⟩ := id ce5
 have l5 : ([1, 2] : List Int).length = 2 := rfl
 rw [l5] at ce5 ⊢
 have hg5 := (b5.block _ (Array.getElem?_eq_some_iff.1 hg4).1).trans hg4
 have B5 := zx (yk (zy B4) b5)
 have bn5 : Below w5.heap.size w5 (w5.alloc (.cells #[.int .i64 1, .int .i64 2] 3)) := Below.new1 _
 have CI := zx (ints_l _ _ [1, 2] [1, 2] (w5.alloc (.cells #[.int .i64 1, .int .i64 2] 3)) (ce5.later bn5) (ceNew (enc := Value.int .i64) (l := [1, 2]) (heap_alloc_new w5 _) (by simp)))
 rw [show eqG (fun x y => x == y) ([1, 2] : List Int) [1, 2] = true from rfl, l5] at CI
 clear ce5 hv5 hp5 hm5 l5 b5 y0 y1 hg4 B4
 go_wp2_with fail
 refine (zy CI).mono ?_
 clear CI
 rintro e w6 ⟨rfl, b6⟩
 have hg6 := ((yk bn5 b6).block _ (Array.getElem?_eq_some_iff.1 hg5).1).trans hg5
 have B6 := zx (yk (zy B5) (yk bn5 b6))
 obtain ⟨y0, y1, -, -⟩ := zo hg6
 clear hg5 bn5 b6 B5 hg6
 go_wp2_with fail
 refine (zy CE _ (zy B6)).mono ?_
 clear CE
 rintro e w7 ⟨rfl, b7⟩
 go_wp2_with fail
 go_ret
 exact ⟨rfl, yk (zy HB2) (yk (zy B6) b7)⟩
def EncS : List SY → List Value → Prop
 | [], cs => cs = []
 | s :: l, cs => ∃ x k cs', cs = .int .i64 s.1 :: .slice x s.2.1.length k :: .int .i64 s.2.2 :: cs' ∧ EncS l cs'
theorem EncS.len : ∀ {l : List SY} {cs : List Value}, EncS l cs → cs.length = l.length * 3 := by
 intro l
 induction l with
 | nil => intro cs h; have : cs = [] := h; subst this; rfl
 | cons s l ih => intro cs h; obtain ⟨x, k, cs', rfl, h⟩ := h; have := ih h; simp; omega
theorem EncS.one : ∀ {l : List SY} {cs : List Value}, EncS l cs → ∀ u ∈ cs, u.oneCell' = true := by
 intro l
 induction l with
 | nil => intro cs h u hu; have : cs = [] := h; subst this; cases hu
 | cons s l ih =>
  intro cs h u hu
  obtain ⟨x, k, cs', rfl, h⟩ := h
  rcases List.mem_cons.1 hu with rfl | hu
  ·rfl
  rcases List.mem_cons.1 hu with rfl | hu
  ·rfl
  rcases List.mem_cons.1 hu with rfl | hu
  ·rfl
  exact ih h u hu
theorem EncS.append : ∀ {l m : List SY} {cs ds : List Value}, EncS l cs → EncS m ds → EncS (l ++ m) (cs ++ ds) := by
 intro l
 induction l with
 | nil => intro m cs ds h h2; have : cs = [] := h; subst this; exact h2
 | cons s l ih => intro m cs ds h h2; obtain ⟨x, k, cs', rfl, h⟩ := h; exact ⟨x, k, cs' ++ ds, rfl, ih h h2⟩
theorem EncS.at : ∀ {l : List SY} {cs : List Value} {j : Nat} {s : SY}, EncS l cs → l[j]? = some s → ∃ x k, cs[3 * j]? = some (.int .i64 s.1) ∧ cs[3 * j + 1]? = some (.slice x s.2.1.length k) ∧ cs[3 * j + 2]? = some (.int .i64 s.2.2) := by
 intro l
 induction l with
 | nil => intro cs j s _ hj; simp at hj
 | cons y l ih =>
  intro cs j s h hj
  obtain ⟨x, k, cs', rfl, h⟩ := h
  cases j with
  | zero => simp at hj; subst hj; exact ⟨x, k, rfl, rfl, rfl⟩
  | succ j =>
   obtain ⟨x2, k2, h0, h1, h2⟩ := ih h (by simpa using hj)
   refine ⟨x2, k2, ?_, ?_, ?_⟩
   ·rw [show 3 * (j + 1) = 3 * j + 1 + 1 + 1 by omega]; simpa using h0
   ·rw [show 3 * (j + 1) + 1 = 3 * j + 1 + 1 + 1 + 1 by omega]; simpa using h1
   ·rw [show 3 * (j + 1) + 2 = 3 * j + 2 + 1 + 1 + 1 by omega]; simpa using h2
def SrcS (w : World) (a : Option Addr) (n : Nat) (cs : List Value) : Prop := (a = none ∧ n = 0) ∨ ∃ ad, a = some ad ∧ ∀ (j : Nat) (u : Value), cs[j]? = some u → ad.block < w.heap.size ∧ w.cell? (ad.add j) = some u
theorem SrcS.later {w X : World} {a : Option Addr} {n : Nat} {cs : List Value} (h : SrcS w a n cs) (b : Below w.heap.size w X) : SrcS X a n cs := by
 rcases h with h | ⟨ad, rfl, h⟩
 ·exact .inl h
 ·refine .inr ⟨ad, rfl, fun j u hu => ?_⟩
  obtain ⟨h1, h2⟩ := h j u hu
  have e : (ad.add j).block = ad.block := by unfold Addr.add; split <;> rfl
  exact ⟨Nat.lt_of_lt_of_le h1 b.size, (b.cell (p := ad.add j) (by rw [e]; exact h1)).trans h2⟩
theorem nu_more {P P' : List PRD} (h : ∀ (i : Nat) (p : PRD), P[i]? = some p → ∃ p', P'[i]? = some p' ∧ ∀ a ∈ p.1, a ∈ p'.1) : ∀ x, isN P x → isN P' x :=
 nu_least (isN P') (fun i p a hp ha hs => by
  obtain ⟨p', hp', hm⟩ := h i p hp
  exact nu_closed hp' (hm a ha) hs)
theorem nu_nil {P : List PRD} {i : Nat} {p : PRD} (hp : P[i]? = some p) (h : [] ∈ p.1) : isN P (i : Int) :=
 nu_closed hp h (fun s hs => by cases hs)
theorem AltM.one {w : World} {u : Value} {A : List (List SY)} (h : AltM w u A) : u.oneCell' = true := by obtain ⟨a, c, rfl, -⟩ := h; rfl
theorem NotM.one {w : World} {u : Value} {N : List (Int × Int)} (h : NotM w u N) : u.oneCell' = true := by obtain ⟨a, c, rfl, -⟩ := h; rfl
theorem SyM.one {w : World} {u : Value} {l : List SY} (h : SyM w u l) : u.oneCell' = true := by obtain ⟨a, c, rfl, -⟩ := h; rfl
def EncP (w : World) : List PRD → List Value → Prop
 | [], cs => cs = []
 | p :: P, cs => ∃ u u2 cs', cs = u :: .int .i64 p.2.1 :: u2 :: cs' ∧ AltM w u p.1 ∧ NotM w u2 p.2.2 ∧ EncP w P cs'
theorem EncP.len {w : World} : ∀ {P : List PRD} {cs : List Value}, EncP w P cs → cs.length = P.length * 3 := by
 intro P
 induction P with
 | nil => intro cs h; have : cs = [] := h; subst this; rfl
 | cons p P ih => intro cs h; obtain ⟨u, u2, cs', rfl, -, -, h⟩ := h; have := ih h; simp; omega
theorem EncP.one {w : World} : ∀ {P : List PRD} {cs : List Value}, EncP w P cs → ∀ u ∈ cs, u.oneCell' = true := by
 intro P
 induction P with
 | nil => intro cs h u hu; have : cs = [] := h; subst this; cases hu
 | cons p P ih =>
  intro cs h u hu
  obtain ⟨x, y, cs', rfl, h1, h2, h⟩ := h
  rcases List.mem_cons.1 hu with rfl | hu
  ·exact h1.one
  rcases List.mem_cons.1 hu with rfl | hu
  ·rfl
  rcases List.mem_cons.1 hu with rfl | hu
  ·exact h2.one
  exact ih h u hu
theorem EncP.later {w X : World} (b : Below w.heap.size w X) : ∀ {P : List PRD} {cs : List Value}, EncP w P cs → EncP X P cs := by
 intro P
 induction P with
 | nil => intro cs h; exact h
 | cons p P ih => intro cs h; obtain ⟨u, u2, cs', rfl, h1, h2, h⟩ := h; exact ⟨u, u2, cs', rfl, h1.later b, h2.later b, ih h⟩
theorem EncP.at {w : World} : ∀ {P : List PRD} {cs : List Value} {j : Nat} {p : PRD}, EncP w P cs → P[j]? = some p → ∃ u u2, cs[3 * j]? = some u ∧ cs[3 * j + 1]? = some (.int .i64 p.2.1) ∧ cs[3 * j + 2]? = some u2 ∧ AltM w u p.1 ∧ NotM w u2 p.2.2 := by
 intro P
 induction P with
 | nil => intro cs j p _ hj; simp at hj
 | cons y P ih =>
  intro cs j p h hj
  obtain ⟨x, k, cs', rfl, h1, h2, h⟩ := h
  cases j with
  | zero => simp at hj; subst hj; exact ⟨x, k, rfl, rfl, rfl, h1, h2⟩
  | succ j =>
   obtain ⟨x2, k2, q0, q1, q2, h3⟩ := ih h (by simpa using hj)
   refine ⟨x2, k2, ?_, ?_, ?_, h3⟩
   ·rw [show 3 * (j + 1) = 3 * j + 1 + 1 + 1 by omega]; simpa using q0
   ·rw [show 3 * (j + 1) + 1 = 3 * j + 1 + 1 + 1 + 1 by omega]; simpa using q1
   ·rw [show 3 * (j + 1) + 2 = 3 * j + 2 + 1 + 1 + 1 by omega]; simpa using q2
theorem EncP.set {w : World} : ∀ {P : List PRD} {cs : List Value} {j : Nat} {p : PRD} {u : Value} {A : List (List SY)}, EncP w P cs → P[j]? = some p → AltM w u A → EncP w (P.set j (A, p.2)) (cs.set (3 * j) u) := by
 intro P
 induction P with
 | nil => intro cs j p u A _ hj; simp at hj
 | cons y P ih =>
  intro cs j p u A h hj hA
  obtain ⟨x, k, cs', rfl, h1, h2, h⟩ := h
  cases j with
  | zero => simp at hj; subst hj; exact ⟨u, k, cs', rfl, hA, h2, h⟩
  | succ j =>
   have := ih h (by simpa using hj) hA
   rw [show 3 * (j + 1) = 3 * j + 1 + 1 + 1 by omega]
   exact ⟨x, k, _, rfl, h1, h2, this⟩
def EncA (w : World) : List (List SY) → List Value → Prop
 | [], cs => cs = []
 | l :: A, cs => ∃ u cs', cs = u :: cs' ∧ SyM w u l ∧ EncA w A cs'
theorem EncA.len {w : World} : ∀ {A : List (List SY)} {cs : List Value}, EncA w A cs → cs.length = A.length := by
 intro A
 induction A with
 | nil => intro cs h; have : cs = [] := h; subst this; rfl
 | cons l A ih => intro cs h; obtain ⟨u, cs', rfl, -, h⟩ := h; have := ih h; simp [this]
theorem EncA.one {w : World} : ∀ {A : List (List SY)} {cs : List Value}, EncA w A cs → ∀ u ∈ cs, u.oneCell' = true := by
 intro A
 induction A with
 | nil => intro cs h u hu; have : cs = [] := h; subst this; cases hu
 | cons l A ih =>
  intro cs h u hu
  obtain ⟨x, cs', rfl, h1, h⟩ := h
  rcases List.mem_cons.1 hu with rfl | hu
  ·exact h1.one
  exact ih h u hu
theorem EncA.later {w X : World} (b : Below w.heap.size w X) : ∀ {A : List (List SY)} {cs : List Value}, EncA w A cs → EncA X A cs := by
 intro A
 induction A with
 | nil => intro cs h; exact h
 | cons l A ih => intro cs h; obtain ⟨u, cs', rfl, h1, h⟩ := h; exact ⟨u, cs', rfl, h1.later b, ih h⟩
theorem EncA.snoc {w : World} {u : Value} {l : List SY} (hu : SyM w u l) : ∀ {A : List (List SY)} {cs : List Value}, EncA w A cs → EncA w (A ++ [l]) (cs ++ [u]) := by
 intro A
 induction A with
 | nil => intro cs h; have : cs = [] := h; subst this; exact ⟨u, [], rfl, hu, rfl⟩
 | cons y A ih => intro cs h; obtain ⟨x, cs', rfl, h1, h⟩ := h; exact ⟨x, _, rfl, h1, ih h⟩
theorem EncA.at {w : World} : ∀ {A : List (List SY)} {cs : List Value} {j : Nat} {l : List SY}, EncA w A cs → A[j]? = some l → ∃ u, cs[j]? = some u ∧ SyM w u l := by
 intro A
 induction A with
 | nil => intro cs j l _ hj; simp at hj
 | cons y A ih =>
  intro cs j l h hj
  obtain ⟨x, cs', rfl, h1, h⟩ := h
  cases j with
  | zero => simp at hj; subst hj; exact ⟨x, rfl, h1⟩
  | succ j => obtain ⟨u, q, h3⟩ := ih h (by simpa using hj); exact ⟨u, by simpa using q, h3⟩
theorem own_prm {w : World} {base n : Nat} {t : TypeId} {v : Value} {P : List PRD} {cs : List Value} (h : w.ownsRow base t 3 v n cs) (hn : P.length = n) (he : EncP w P cs) : PrM w v P := by
 subst hn
 rcases id h.2 with ⟨rfl, h0⟩ | ⟨g, cap, cur, rfl, hb, hg, hn, hm, hsz, ht⟩
 ·exact ⟨none, 0, by rw [h0], by omega, Nat.zero_le _, fun j s hj => by have := (List.getElem?_eq_some_iff.1 hj).1; omega⟩
 ·refine ⟨_, cap, rfl, hn, hm, fun j p hj => ?_⟩
  obtain ⟨u, u2, q0, q1, q2, h1, h2⟩ := he.at hj
  have hjl := (List.getElem?_eq_some_iff.1 hj).1
  have cell : ∀ i u, cs[i]? = some u → i < P.length * 3 → w.cell? ⟨g, i, none⟩ = some u := by
   intro i u hu hi
   rw [cell_of_row w g i cur t (0, 0) hg]
   rw [← ht, List.getElem?_take, if_pos hi] at hu
   simpa using hu
  exact ⟨g, 0, u, u2, rfl, (Array.getElem?_eq_some_iff.1 hg).1, by rw [Nat.zero_add]; exact cell _ _ q0 (by omega), by rw [Nat.zero_add]; exact cell _ _ q1 (by omega), by rw [Nat.zero_add]; exact cell _ _ q2 (by omega), h1, h2⟩
theorem own_alt {w : World} {base n : Nat} {t : TypeId} {v : Value} {A : List (List SY)} {cs : List Value} (h : w.ownsRow base t 1 v n cs) (hn : A.length = n) (he : EncA w A cs) : AltM w v A := by
 subst hn
 rcases id h.2 with ⟨rfl, h0⟩ | ⟨g, cap, cur, rfl, hb, hg, hn, hm, hsz, ht⟩
 ·exact ⟨none, 0, by rw [h0], by omega, Nat.zero_le _, fun j s hj => by have := (List.getElem?_eq_some_iff.1 hj).1; omega⟩
 ·refine ⟨_, cap, rfl, hn, hm, fun j l hj => ?_⟩
  obtain ⟨u, q0, h1⟩ := he.at hj
  have hjl := (List.getElem?_eq_some_iff.1 hj).1
  refine ⟨g, 0, u, rfl, (Array.getElem?_eq_some_iff.1 hg).1, ?_, h1⟩
  rw [Nat.zero_add, cell_of_row w g j cur t (0, 0) hg]
  rw [← ht, List.getElem?_take, if_pos (by omega)] at q0
  simpa using q0
theorem encP_of {w : World} {g : Nat} : ∀ (P : List PRD) (off : Nat), (∀ j p, P[j]? = some p → ∃ u u2, w.cell? ⟨g, off + 3 * j, none⟩ = some u ∧ w.cell? ⟨g, off + 3 * j + 1, none⟩ = some (.int .i64 p.2.1) ∧ w.cell? ⟨g, off + 3 * j + 2, none⟩ = some u2 ∧ AltM w u p.1 ∧ NotM w u2 p.2.2) →
  ∃ cs, EncP w P cs ∧ ∀ j u, cs[j]? = some u → w.cell? ⟨g, off + j, none⟩ = some u := by
 intro P
 induction P with
 | nil => intro off _; exact ⟨[], rfl, fun j u hu => by simp at hu⟩
 | cons p P ih =>
  intro off h
  obtain ⟨x, k, h0, h1, h2, h3, h4⟩ := h 0 p rfl
  obtain ⟨cs, he, hc⟩ := ih (off + 3) (fun j s' hj => by
   obtain ⟨x, k, a0, a1, a2, a3, a4⟩ := h (j + 1) s' (by simpa using hj)
   rw [show off + 3 * (j + 1) = off + 3 + 3 * j by omega] at a0 a1 a2
   exact ⟨x, k, a0, a1, a2, a3, a4⟩)
  refine ⟨_, ⟨x, k, cs, rfl, h3, h4, he⟩, fun j u hu => ?_⟩
  match j, hu with
  | 0, hu => simp at hu; subst hu; simpa using h0
  | 1, hu => simp at hu; subst hu; simpa using h1
  | 2, hu => simp at hu; subst hu; simpa using h2
  | j + 3, hu =>
   have := hc j u (by simpa using hu)
   rw [show off + 3 + j = off + (j + 3) by omega] at this
   exact this
theorem encP_row {w : World} {a : Option Addr} {n c : Nat} {P : List PRD} (h : PrM w (.slice a n c) P) : P.length = n ∧ n ≤ c ∧ c ≤ maxLen ∧ ∃ cs, EncP w P cs ∧ SrcS w a n cs := by
 obtain ⟨a', c', e, h1, h2, h3⟩ := h
 injection e with e1 e2 e3
 subst e1; subst e2; subst e3
 refine ⟨rfl, h1, h2, ?_⟩
 cases P with
 | nil =>
  refine ⟨[], rfl, ?_⟩
  cases a with
  | none => exact .inl ⟨rfl, rfl⟩
  | some ad => exact .inr ⟨ad, rfl, fun j u hu => by simp at hu⟩
 | cons p P =>
  obtain ⟨g, off, -, -, rfl, hg, -⟩ := h3 0 p rfl
  obtain ⟨cs, he, hc⟩ := encP_of (w := w) (g := g) (p :: P) off (fun j s' hj => by
   obtain ⟨g', off', x, k, e, -, q0, q1, q2, q3, q4⟩ := h3 j s' hj
   injection e with e
   injection e with e1 e2
   subst e1; subst e2
   exact ⟨x, k, q0, q1, q2, q3, q4⟩)
  exact ⟨cs, he, .inr ⟨_, rfl, fun j u hu => ⟨hg, by rw [Addr.add_mid]; exact hc j u hu⟩⟩⟩
theorem encA_of {w : World} {g : Nat} : ∀ (A : List (List SY)) (off : Nat), (∀ j l, A[j]? = some l → ∃ u, w.cell? ⟨g, off + j, none⟩ = some u ∧ SyM w u l) →
  ∃ cs, EncA w A cs ∧ ∀ j u, cs[j]? = some u → w.cell? ⟨g, off + j, none⟩ = some u := by
 intro A
 induction A with
 | nil => intro off _; exact ⟨[], rfl, fun j u hu => by simp at hu⟩
 | cons l A ih =>
  intro off h
  obtain ⟨x, h0, h3⟩ := h 0 l rfl
  obtain ⟨cs, he, hc⟩ := ih (off + 1) (fun j s' hj => by
   obtain ⟨x, a0, a3⟩ := h (j + 1) s' (by simpa using hj)
   rw [show off + (j + 1) = off + 1 + j by omega] at a0
   exact ⟨x, a0, a3⟩)
  refine ⟨_, ⟨x, cs, rfl, h3, he⟩, fun j u hu => ?_⟩
  match j, hu with
  | 0, hu => simp at hu; subst hu; simpa using h0
  | j + 1, hu =>
   have := hc j u (by simpa using hu)
   rw [show off + 1 + j = off + (j + 1) by omega] at this
   exact this
theorem encA_row {w : World} {a : Option Addr} {n c : Nat} {A : List (List SY)} (h : AltM w (.slice a n c) A) : A.length = n ∧ n ≤ c ∧ c ≤ maxLen ∧ ∃ cs, EncA w A cs ∧ SrcS w a n cs := by
 obtain ⟨a', c', e, h1, h2, h3⟩ := h
 injection e with e1 e2 e3
 subst e1; subst e2; subst e3
 refine ⟨rfl, h1, h2, ?_⟩
 cases A with
 | nil =>
  refine ⟨[], rfl, ?_⟩
  cases a with
  | none => exact .inl ⟨rfl, rfl⟩
  | some ad => exact .inr ⟨ad, rfl, fun j u hu => by simp at hu⟩
 | cons l A =>
  obtain ⟨g, off, -, rfl, hg, -⟩ := h3 0 l rfl
  obtain ⟨cs, he, hc⟩ := encA_of (w := w) (g := g) (l :: A) off (fun j s' hj => by
   obtain ⟨g', off', x, e, -, q0, q3⟩ := h3 j s' hj
   injection e with e
   injection e with e1 e2
   subst e1; subst e2
   exact ⟨x, q0, q3⟩)
  exact ⟨cs, he, .inr ⟨_, rfl, fun j u hu => ⟨hg, by rw [Addr.add_mid]; exact hc j u hu⟩⟩⟩
theorem symS_info : (Tryz.prog.info? 46).map (fun i => (i.zero, i.size, i.bytes)) = some (some (.slice none 0 0), 1, 24) := by kernel_rfl
theorem prod_append {w : World} {base n : Nat} {v : Value} {xs : List Value} (own : w.ownsRow base 45 3 v n xs) (hb : base ≤ w.heap.size) {x : Option Addr} {m c : Nat} {ds : List Value} (hl : ds.length = m * 3) (h1 : ∀ u ∈ ds, u.oneCell' = true) (hx : SrcS w x m ds) (hs : n + m ≤ 100000) :
  ∃ v' w', (Builtin.append_ #[30, 30] 30 #[v, .slice x m c]).run Tryz.prog w = .ok v' w' ∧ w'.ownsRow base 45 3 v' (n + m) (xs ++ ds) ∧ w.grownBy w' v.ownBlock := by
 obtain ⟨ti, hi0, hz0, hz1, hz2⟩ := info_parts prod_info
 rcases hx with ⟨rfl, rfl⟩ | ⟨ad, rfl, hc⟩
 ·have d0 : ds = [] := List.eq_nil_of_length_eq_zero (by omega)
  subst d0
  refine ⟨v, w, ?_, by rw [List.append_nil]; exact own, ⟨rfl, rfl, rfl, Nat.le_refl _, fun _ _ _ => rfl⟩⟩
  rcases id own.2 with ⟨rfl, rfl⟩ | ⟨g, cap, cur, rfl, _, _, hnc, _⟩
  ·simp [Builtin.append_, run_underlying Tryz.underlying30, sizeOf, typeInfo, hi0, Builtin.lenOf, Builtin.firstCells]
  ·simp [Builtin.append_, run_underlying Tryz.underlying30, sizeOf, typeInfo, hi0, Builtin.lenOf, Builtin.firstCells, hnc, storeCells]
 ·obtain ⟨v', w', hr, h2, h3, -, -⟩ := run_append_own_at (P := Tryz.prog) w base 30 30 45 ti _ 3 56 Tryz.underlying30 hi0 hz0 hz1 hz2 rfl (by omega) v n xs own ad m c ds hl (fun j u hu => (hc j u hu).2) h1 (by unfold maxLen; omega) (by omega) hb
  exact ⟨v', w', hr, h2, h3⟩
theorem jw {w : World} {base n : Nat} {v : Value} {xs : List Value} (own : w.ownsRow base 46 1 v n xs) (hb : base ≤ w.heap.size) {x : Option Addr} {m c : Nat} {ds : List Value} (hl : ds.length = m * 1) (h1 : ∀ u ∈ ds, u.oneCell' = true) (hx : SrcS w x m ds) (hs : n + m ≤ 100000) :
  ∃ v' w', (Builtin.append_ #[43, 43] 43 #[v, .slice x m c]).run Tryz.prog w = .ok v' w' ∧ w'.ownsRow base 46 1 v' (n + m) (xs ++ ds) ∧ w.grownBy w' v.ownBlock := by
 obtain ⟨ti, hi0, hz0, hz1, hz2⟩ := info_parts symS_info
 rcases hx with ⟨rfl, rfl⟩ | ⟨ad, rfl, hc⟩
 ·have d0 : ds = [] := List.eq_nil_of_length_eq_zero (by omega)
  subst d0
  refine ⟨v, w, ?_, by rw [List.append_nil]; exact own, ⟨rfl, rfl, rfl, Nat.le_refl _, fun _ _ _ => rfl⟩⟩
  rcases id own.2 with ⟨rfl, rfl⟩ | ⟨g, cap, cur, rfl, _, _, hnc, _⟩
  ·simp [Builtin.append_, run_underlying Tryz.underlying43, sizeOf, typeInfo, hi0, Builtin.lenOf, Builtin.firstCells]
  ·simp [Builtin.append_, run_underlying Tryz.underlying43, sizeOf, typeInfo, hi0, Builtin.lenOf, Builtin.firstCells, hnc, storeCells]
 ·obtain ⟨v', w', hr, h2, h3, -, -⟩ := run_append_own_at (P := Tryz.prog) w base 43 43 46 ti _ 1 24 Tryz.underlying43 hi0 hz0 hz1 hz2 rfl (by omega) v n xs own ad m c ds hl (fun j u hu => (hc j u hu).2) h1 (by unfold maxLen; omega) (by omega) hb
  exact ⟨v', w', hr, h2, h3⟩
theorem vi {P : Program} {w : World} {ops : Array Oper} {o : Oper} {a : Act} {K : Act → World → Prop} {Q : Exit → Act → World → Prop} {E : Prop} (hgd : o.guard = none) (s x : Operand) (t ty : TypeId)
  (ho : o.op = .call { callee := .builtin .append, args := #[s, x], argTypes := #[t, t] }) (hty : o.type = ty) (v1 v2 : Value) (hs : a.eval s = v1) (hx : a.eval x = v2) {v' : Value} {w' : World}
  (hr : (Builtin.append_ #[t, t] ty #[v1, v2]).run P w = .ok v' w') (h : K (a.put o.dst v') w') : if Region.wanted o (yielded ops a.tmps) = true then Oper.wp P o a w K Q else E := by
 have hw : Region.wanted o (yielded ops a.tmps) = true := by simp [Region.wanted, hgd]
 rw [if_pos hw]
 subst hty
 unfold Oper.wp
 simp [execOp, ho, resolve, invoke, builtin, hs, hx, hr, Result.andThen, Oper.upon]
 exact h
theorem srcOne {w : World} {g : Nat} {u : Value} {t : TypeId} (h : w.heap[g]? = some (.cells #[u] t)) : SrcS w (some ⟨g, 0, none⟩) 1 [u] :=
 .inr ⟨_, rfl, fun j x hx => by
  match j, hx with
  | 0, hx => simp at hx; subst hx; exact ⟨(Array.getElem?_eq_some_iff.1 h).1, by simp [World.cell?, Addr.add, h]⟩⟩
theorem srcOwn {w : World} {base n g c : Nat} {t : TypeId} {z : Nat} {xs : List Value} (h : w.ownsRow base t z (.slice (some ⟨g, 0, none⟩) n c) n xs) : SrcS w (some ⟨g, 0, none⟩) n xs :=
 .inr ⟨_, rfl, fun j x hx => ⟨(h.lt g rfl).2, World.ownsRow.cells h rfl j x hx⟩⟩
theorem nu_set {P : List PRD} {i : Nat} {p : PRD} {A : List (List SY)} {m : Int × List (Int × Int)} (hp : P[i]? = some p) (h : ∀ a ∈ p.1, a ∈ A) : ∀ x, isN P x → isN (P.set i (A, m)) x := by
 refine nu_more fun j q hq => ?_
 by_cases e : i = j
 ·subst e
  obtain rfl : q = p := Option.some.inj (hq.symm.trans hp)
  exact ⟨(A, m), by rw [List.getElem?_set, if_pos rfl, if_pos (List.getElem?_eq_some_iff.1 hp).1], h⟩
 ·exact ⟨q, by rw [List.getElem?_set, if_neg e]; exact hq, fun a ha => ha⟩
theorem nu_set_nil {P : List PRD} {i : Nat} {p : PRD} {A : List (List SY)} {m : Int × List (Int × Int)} (hp : P[i]? = some p) (h : [] ∈ A) : isN (P.set i (A, m)) (i : Int) :=
 nu_nil (p := (A, m)) (by rw [List.getElem?_set, if_pos rfl, if_pos (List.getElem?_eq_some_iff.1 hp).1]) h
theorem grM_row {W : World} {b0 n g9 k9 nK cK : Nat} {aK : Option Addr} {Q : List PRD} {K : List (List Int)} {cs : List Value} (h1 : W.ownsRow b0 45 3 (.slice (some ⟨g9, 0, none⟩) n k9) n cs) (h2 : EncP W Q cs) (h3 : Q.length = n) (hn : K.length = nK) (hk : nK ≤ cK) (hk2 : cK ≤ maxLen) :
  GrM W (.agg #[.slice (some ⟨g9, 0, none⟩) n k9, .slice aK nK cK]) (Q, K) := by
 subst h3; subst hn
 exact ⟨_, k9, aK, cK, rfl, own_prm h1 rfl h2, hk, hk2⟩
def S3 (bx b gp off : Nat) (v1 v2 v3 : Value) (w : World) : Prop := w.cell? ⟨bx, 0, none⟩ = some v1 ∧ w.cell? ⟨b, 0, none⟩ = some v2 ∧ w.cell? ⟨gp, off, none⟩ = some v3
theorem S3.of {bx b gp off : Nat} {v1 v2 v3 : Value} {w w' : World} (h : S3 bx b gp off v1 v2 v3 w) (k : ∀ x, x = bx ∨ x = b ∨ x = gp → w'.heap[x]? = w.heap[x]?) : S3 bx b gp off v1 v2 v3 w' :=
 ⟨(World.cell?_of_block (a := ⟨bx, 0, none⟩) (k bx (.inl rfl))).trans h.1, (World.cell?_of_block (a := ⟨b, 0, none⟩) (k b (.inr (.inl rfl)))).trans h.2.1, (World.cell?_of_block (a := ⟨gp, off, none⟩) (k gp (.inr (.inr rfl)))).trans h.2.2⟩
theorem S3.later {bx b gp off : Nat} {v1 v2 v3 : Value} {w w' : World} (h : S3 bx b gp off v1 v2 v3 w) (k : Below w.heap.size w w') : S3 bx b gp off v1 v2 v3 w' :=
 h.of (fun x hx => k.block x (by rcases hx with rfl | rfl | rfl; exact zw h.1; exact zw h.2.1; exact zw h.2.2))
structure PutA (wB wA w9 : World) (g5 k5 n i : Nat) (P : List PRD) (A : List (List SY)) (p : PRD) (l : List SY) (cs : List Value) (v8 : Value) : Prop where
 bl : Below wB.heap.size wB w9
 own : w9.ownsRow wB.heap.size 45 3 (.slice (some ⟨g5, 0, none⟩) n k5) n (cs.set (3 * i) v8)
 enc : EncP w9 (P.set i (A ++ [l], p.2)) (cs.set (3 * i) v8)
 far : ∀ k o, k ≠ g5 → wA.heap[k]? = some o → w9.heap[k]? = some o
theorem putA {wB wA w8 : World} {g5 k5 n i : Nat} {P : List PRD} {A : List (List SY)} {cs csA : List Value} {p : PRD} {v8 u : Value} {l : List SY} (EP : EncP wB P cs) (b : Below wB.heap.size wB wA)
  (own5 : wA.ownsRow wB.heap.size 45 3 (.slice (some ⟨g5, 0, none⟩) n k5) n cs) (b8 : Below wA.heap.size wA w8) (own8 : w8.ownsRow wA.heap.size 46 1 v8 (A.length + 1) (csA ++ [u])) (EA : EncA wB A csA) (hu : SyM wB u l) (hp : P[i]? = some p) :
  PutA wB wA (w8.setCell ⟨g5, 3 * i, none⟩ v8) g5 k5 n i P A p l cs v8 := by
 have hg5 := own5.lt g5 rfl
 have bw8 : Below wB.heap.size wB w8 := b.trans (b8.mono b.size)
 have bw9 : Below wB.heap.size wB (w8.setCell ⟨g5, 3 * i, none⟩ v8) := bw8.setCell (p := ⟨g5, 3 * i, none⟩) hg5.1 v8
 have own8' := own5.kept (kx b8) (.inr (by simp [Value.ownBlock]))
 obtain ⟨h1, h2⟩ := own8'.stored (3 * i) v8
 have hne : v8.ownBlock ≠ some g5 := fun e => by have := own8.lt g5 e; omega
 have own9 : (w8.setCell ⟨g5, 3 * i, none⟩ v8).ownsRow wA.heap.size 46 1 v8 (A.length + 1) (csA ++ [u]) := own8.kept h2 (.inr hne)
 have al : AltM (w8.setCell ⟨g5, 3 * i, none⟩ v8) v8 (A ++ [l]) := own_alt own9 (by simp) ((EA.later bw9).snoc (hu.later bw9))
 exact ⟨bw9, h1, (EP.later bw9).set hp al, fun k o h3 h4 => zj ((b8.block k (Array.getElem?_eq_some_iff.1 h4).1).trans h4) h3 v8⟩
def isS (x : Int) (s : SY) : Bool := s.1 == 2 && s.2.2 == x
structure LfF (w : World) (kg : Nat) (gp off i nP c nK cK : Nat) (aK aA : Option Addr) (cA : Nat) (A : List (List SY)) (aL : Option Addr) (cL : Nat) (L : List Int) : Prop where
 bx : w.cell? ⟨kg, 0, none⟩ = some (.slice (some ⟨gp, off, none⟩) nP c)
 ps : w.cell? ⟨gp, off + 3 * i, none⟩ = some (.slice aA A.length cA)
 al : AltM w (.slice aA A.length cA) A
 le : CeV (Value.int .i64) w (.slice aL L.length cL) L
theorem LfF.later {w X : World} {kg gp off i nP c nK cK : Nat} {aK aA : Option Addr} {cA : Nat} {A : List (List SY)} {aL : Option Addr} {cL : Nat} {L : List Int} (h : LfF w kg gp off i nP c nK cK aK aA cA A aL cL L) (k : Below w.heap.size w X) : LfF X kg gp off i nP c nK cK aK aA cA A aL cL L :=
 ⟨(k.cell (p := ⟨kg, 0, none⟩) (zw h.bx)).trans h.bx, (k.cell (p := ⟨gp, off + 3 * i, none⟩) (zw h.ps)).trans h.ps, h.al.later k, h.le.later k⟩
theorem AltM.get {w : World} {a : Option Addr} {n c : Nat} {A : List (List SY)} (h : AltM w (.slice a n c) A) {k : Nat} {l : List SY} (hk : A[k]? = some l) : ∃ g off x cc, a = some ⟨g, off, none⟩ ∧ g < w.heap.size ∧ w.cell? ⟨g, off + k, none⟩ = some (.slice x l.length cc) ∧ SyM w (.slice x l.length cc) l ∧ l.length ≤ cc ∧ cc ≤ maxLen := by
 obtain ⟨a', c', e, -, -, h3⟩ := h
 injection e with e1 e2 e3
 subst e1
 obtain ⟨g, off, u, ha, hg, q0, hs⟩ := h3 k l hk
 obtain ⟨x, cc, rfl, h1, h2, -⟩ := id hs
 exact ⟨g, off, x, cc, ha, hg, q0, hs, h1, h2⟩
theorem SyM.get {w : World} {a : Option Addr} {n c : Nat} {l : List SY} (h : SyM w (.slice a n c) l) {j : Nat} {s : SY} (hj : l[j]? = some s) : ∃ g off, a = some ⟨g, off, none⟩ ∧ g < w.heap.size ∧ w.cell? ⟨g, off + 3 * j, none⟩ = some (.int .i64 s.1) ∧ w.cell? ⟨g, off + 3 * j + 2, none⟩ = some (.int .i64 s.2.2) := by
 obtain ⟨a', c', e, -, -, h3⟩ := h
 injection e with e1 e2 e3
 subst e1
 obtain ⟨g, off, x, k, ha, hg, q0, q1, q2, -⟩ := h3 j s hj
 exact ⟨g, off, ha, hg, q0, q2⟩
theorem CeV.get {α : Type} {enc : α → Value} {w : World} {a : Option Addr} {n c : Nat} {l : List α} (h : CeV enc w (.slice a n c) l) {j : Nat} {x : α} (hj : l[j]? = some x) : ∃ g off, a = some ⟨g, off, none⟩ ∧ g < w.heap.size ∧ w.cell? ⟨g, off + j, none⟩ = some (enc x) := by
 obtain ⟨a', c', e, -, -, h3⟩ := h
 injection e with e1 e2 e3
 subst e1
 exact h3 j x hj
theorem nullMore_walk (v : Value) (g : GR) (n : Int) (va : Value) (la : List SY) (w : World) (h : GrM w v g) (hf : ∀ p ∈ g.1, ∀ l ∈ p.1, ∀ s ∈ l, zJ s.2.2)
  (ha : SyM w va la) (hfa : ∀ s ∈ la, zJ s.2.2) :
  Calls Tryz.prog 6 #[v, .int .i64 n, va] w fun e w' => e = .returned (.bool true) ∧ Below w.heap.size w w' := by
 have CA := zx (fun W => awake9_l W)
 have CM := zx (fun W (bW : Below w.heap.size w W) => fMayM_l v g W (h.later bW))
 have CG := zx (fun vx gx W (hx : GrM W vx gx) => fMayM_l vx gx W hx)
 have CN := zx (fun vx gx W (hx : GrM W vx gx) => nAll_l vx gx W hx)
 obtain ⟨a, c, aK, cK, rfl, hp, hKK⟩ := id h
 have CF := zx (fun W (bW : Below w.heap.size w W) => few_l a c g.2.length cK aK g.1 W ((hp.later bW).prl hf))
 have HG := zx h
 obtain ⟨P, K⟩ := g
 simp only at CM CF hp hf hKK ⊢
 have HKK := zx hKK
 clear hKK
 obtain ⟨aa, ca, rfl, -, -, -⟩ := id ha
 obtain ⟨-, hc1, hc2, csP, eP, xP⟩ := encP_row hp
 unfold maxLen at hc2
 have HP := zx hp
 have HA := zx ha
 have HFA := zx hfa
 have EP := zx eP
 have XP := zx xP
 generalize hnk : K.length = nK at *
 have HNK := zx hnk
 clear h hp hf ha hfa eP xP hnk
 go_enter Tryz.func6, Tryz.ntmps6
 go_wp2_with fail
 have G0 := heap_alloc_new w (.cells #[.slice a P.length c, .slice aK nK cK] 32)
 refine (zy CA _).mono ?_
 clear CA
 rintro e w1 ⟨rfl, b1⟩
 have G1 := (b1.block _ (Array.getElem?_eq_some_iff.1 G0).1).trans G0
 obtain ⟨y0, y1, -, -⟩ := zo G1
 have B1 := zx (yk (Below.new1 _) b1)
 clear b1 G0
 go_wp2_with fail
 refine (zy CF _ (zy B1)).mono ?_
 clear CF
 rintro e w2 ⟨⟨r, rfl⟩, b2⟩
 have G2 := (b2.block _ (Array.getElem?_eq_some_iff.1 G1).1).trans G1
 have B2 := zx (yk (zy B1) b2)
 clear b2 G1 B1 y0 y1
 obtain ⟨y0, y1, -, -⟩ := zo G2
 cases r with
 | false =>
  go_wp2_with fail
  go_ret
  exact ⟨rfl, zy B2⟩
 | true =>
  go_wp2_with fail
  refine (zy CM _ (zy B2)).mono ?_
  rintro e w4 ⟨rfl, b4⟩
  have G4 := (b4.block _ (Array.getElem?_eq_some_iff.1 G2).1).trans G2
  have B4 := zx (yk (zy B2) b4)
  clear b4 G2 B2 y0 y1
  obtain ⟨y0, y1, -, -⟩ := zo G4
  cases hg : Zx P with
  | false =>
   go_wp2_with fail
   go_ret
   exact ⟨rfl, zy B4⟩
  | true =>
   by_cases h0 : n < 0
   ·have bn : decide (n < 0) = true := decide_eq_true h0
    clear h0
    go_wp2_with fail
    go_ret
    exact ⟨rfl, zy B4⟩
   ·obtain ⟨i, rfl⟩ := Int.eq_ofNat_of_zero_le (show 0 ≤ n by omega)
    have bn : decide ((i : Int) < 0) = false := decide_eq_false h0
    clear h0
    by_cases hn : P.length ≤ i
    ·have bm : decide ((P.length : Int) ≤ (i : Int)) = true := decide_eq_true (by omega)
     have bm2 : decide (P.length ≤ i) = true := decide_eq_true hn
     clear hn
     go_wp2_with fail
     go_ret
     exact ⟨rfl, zy B4⟩
    ·have bm : decide ((P.length : Int) ≤ (i : Int)) = false := decide_eq_false (by omega)
     have bm2 : decide (P.length ≤ i) = false := decide_eq_false hn
     by_cases h2 : 40 < la.length
     ·have d3 : decide (40 < (la.length : Int)) = true := decide_eq_true (by omega)
      have d4 : decide (40 < la.length) = true := decide_eq_true h2
      generalize la.length = ml at *
      clear h2
      go_wp2_with fail
      go_ret
      exact ⟨rfl, zy B4⟩
     ·have d3 : decide (40 < (la.length : Int)) = false := decide_eq_false (by omega)
      have d4 : decide (40 < la.length) = false := decide_eq_false h2
      obtain ⟨v5, w5, hap1, own5, gr5⟩ := prod_append (c := c) (World.ownsRow_nil (w4.alloc (.cells #[.slice a P.length c, .slice aK nK cK] 32)) (w4.heap.size + 1) 45 3) (by simp) (zy EP).len (zy EP).one ((zy XP).later (yk (zy B4) (Below.new1 _))) (by have := (XW hg).2.1; omega)
      have hiL : i < P.length := by omega
      clear h2 hn
      have lw : w.heap.size < w4.heap.size := zw y0
      have y0a : ∀ o, (w4.alloc o).cell? ⟨w.heap.size, 0, none⟩ = some (.slice a P.length c) := fun o => (World.cell?_alloc_past _ _ _ lw).trans y0
      have y1a : ∀ o, (w4.alloc o).cell? ⟨w.heap.size, 1, none⟩ = some (.slice aK nK cK) := fun o => (World.cell?_alloc_past _ _ _ lw).trans y1
      have GX := heap_alloc_new w4 (.cells #[.slice a P.length c, .slice aK nK cK] 32)
      have GX5 := (gr5.block w4.heap.size (by simp) (by simp [Value.ownBlock])).trans GX
      obtain ⟨x0, x1, xz0, xz1⟩ := zo GX5
      obtain ⟨g5, k5, rfl, hg5b, hg5l⟩ := own5.form (by have := (XW hg).1; omega)
      obtain ⟨a9, c9, e9, -, -, h3⟩ := id (zy HP)
      injection e9 with e1 e2 e3
      subst e1; subst e3
      obtain ⟨p, hip⟩ : ∃ p, P[i]? = some p := ⟨P[i], by simp⟩
      obtain ⟨gp, off, u, u2, rfl, hgp, q0, q1, q2, hA, -⟩ := h3 i p hip
      obtain ⟨aA, cA, rfl, -, -⟩ := hA.form
      obtain ⟨-, hA1, hA2, csA, eA, xA⟩ := encA_row hA
      unfold maxLen at hA2
      have hp8 := (XW hg).2.2.1 p (List.mem_of_getElem? hip)
      have hP60 := (XW hg).2.1
      have HIP := zx hip
      have HM1 := zx (nu_set (A := p.1 ++ [la]) (m := p.2) hip (fun a ha => List.mem_append_left _ ha))
      have HM2 := zx (fun m => nu_set (A := p.1 ++ [[]]) (m := m) hip (fun a ha => List.mem_append_left _ ha))
      have HNI := zx (fun m => nu_set_nil (A := p.1 ++ [[]]) (m := m) hip (by simp))
      have EA := zx eA
      have XA := zx xA
      have i3 : i * 3 = 3 * i := by omega
      clear h3 e2 hA eA xA hip q1 q2
      go_wp2_with (at_builtin; refine app_run rfl _ _ 30 30 rfl rfl _ _ rfl rfl hap1 ?_)
      have bw5 : Below w.heap.size w w5 := (yk (zy B4) (Below.new1 _)).grown gr5 (by simp; omega) (fun k hk => by simp [Value.ownBlock] at hk)
      have BWA := zx (bw5.setCell (p := ⟨w4.heap.size, 0, none⟩) (by simp only; omega) (.slice (some ⟨g5, 0, none⟩) P.length k5))
      have GXA := zx (heap_setCell_same w5 w4.heap.size 0 _ _ (.slice (some ⟨g5, 0, none⟩) P.length k5) GX5)
      have gbx : g5 ≠ w4.heap.size := by omega
      rw [Nat.zero_add, List.nil_append] at own5
      have OWN5 := zx ((YV own5 (show w.heap.size ≤ w4.heap.size + 1 by omega)).kept (w' := w5.setCell ⟨w4.heap.size, 0, none⟩ (.slice (some ⟨g5, 0, none⟩) P.length k5)) (row := some w4.heap.size) ⟨rfl, rfl, rfl, by simp, fun k _ h2 => heap_setCell_other w5 ⟨w4.heap.size, 0, none⟩ k _ (fun e => h2 (by simp [e]))⟩ (.inr (fun e => gbx (Option.some.inj e))))
      have GG5 := (gr5.block w.heap.size (by simp; omega) (by simp [Value.ownBlock])).trans ((heap_alloc_old w4 _ (by omega)).trans G4)
      have GGA := zx (zj (g := w4.heap.size) (i := 0) GG5 (show w.heap.size ≠ w4.heap.size by omega) (.slice (some ⟨g5, 0, none⟩) P.length k5))
      have g5w : w.heap.size ≤ g5 := by omega
      have bxl : w.heap.size < w4.heap.size := lw
      clear bw5 GX5 GX GG5 own5 gr5 hap1 y0a y1a x0 x1 xz0 xz1 y0 y1 lw hg5l G4 B4
      generalize hwA : (w5.setCell ⟨w4.heap.size, 0, none⟩ (.slice (some ⟨g5, 0, none⟩) P.length k5)) = wA at *
      clear hwA
      generalize hbx : w4.heap.size = bx at *
      clear hbx
      have S0 : Hid (S3 bx w.heap.size gp (off + 3 * i) (.slice (some ⟨g5, 0, none⟩) P.length k5) (.slice (some ⟨gp, off, none⟩) P.length c) (.slice aA p.1.length cA) wA) := ⟨(zo (zy GXA)).1, (zo (zy GGA)).1, ((zy BWA).cell (p := ⟨gp, off + 3 * i, none⟩) hgp).trans q0⟩
      have SLT : Hid (∀ x, x = bx ∨ x = w.heap.size ∨ x = gp → x ≠ g5 ∧ x < wA.heap.size) := fun x hx => by
       rcases hx with rfl | rfl | rfl
       ·exact ⟨fun e => gbx e.symm, zw (zy S0).1⟩
       ·exact ⟨by omega, zw (zy S0).2.1⟩
       ·exact ⟨by omega, zw (zy S0).2.2⟩
      have Q0 := zx q0
      clear q0
      refine wp_region_held_drew (S := (S3 bx w.heap.size gp (off + 3 * i) (.slice (some ⟨g5, 0, none⟩) P.length k5) (.slice (some ⟨gp, off, none⟩) P.length c) (.slice aA p.1.length cA))) (by kernel_rfl) (zy S0) (fun hHeld => ?_)
      refine tkh 0 ?_ rfl (by kernel_rfl) (fun _ _ _ h => h) ?_ (by assumption) ?_
      rotate_left
      ·intro w hSw; obtain ⟨k1, k2, k3⟩ := hSw; (try clear hSw); go_simp; (try with_reducible rfl)
      try simp only [Act.put, List.getElem_toArray, List.getElem_cons_succ, List.getElem_cons_zero, List.setIfInBounds_toArray, List.set_cons_zero, List.set_cons_succ]
      refine tkh 1 ?_ rfl (by kernel_rfl) (fun _ _ _ h => h) ?_ (by assumption) ?_
      rotate_left
      ·intro w hSw; obtain ⟨k1, k2, k3⟩ := hSw; (try clear hSw); go_simp; (try with_reducible rfl)
      try simp only [Act.put, List.getElem_toArray, List.getElem_cons_succ, List.getElem_cons_zero, List.setIfInBounds_toArray, List.set_cons_zero, List.set_cons_succ]
      refine tkh 2 ?_ rfl (by kernel_rfl) (fun _ _ _ h => h) ?_ (by assumption) ?_
      rotate_left
      ·intro w hSw; obtain ⟨k1, k2, k3⟩ := hSw; (try clear hSw); go_simp; (try with_reducible rfl)
      try simp only [Act.put, List.getElem_toArray, List.getElem_cons_succ, List.getElem_cons_zero, List.setIfInBounds_toArray, List.set_cons_zero, List.set_cons_succ]
      refine tkh 3 ?_ rfl (by kernel_rfl) (fun _ _ _ h => h) ?_ (by assumption) ?_
      rotate_left
      ·intro w hSw; obtain ⟨k1, k2, k3⟩ := hSw; (try clear hSw); go_simp; (try with_reducible rfl)
      try simp only [Act.put, List.getElem_toArray, List.getElem_cons_succ, List.getElem_cons_zero, List.setIfInBounds_toArray, List.set_cons_zero, List.set_cons_succ]
      refine tkh 4 ?_ rfl (by kernel_rfl) (fun _ _ _ h => h) ?_ (by assumption) ?_
      rotate_left
      ·intro w hSw; obtain ⟨k1, k2, k3⟩ := hSw; (try clear hSw); go_simp; (try with_reducible rfl)
      try simp only [Act.put, List.getElem_toArray, List.getElem_cons_succ, List.getElem_cons_zero, List.setIfInBounds_toArray, List.set_cons_zero, List.set_cons_succ]
      refine tkh 5 ?_ rfl (by kernel_rfl) (fun _ _ _ h => h) ?_ (by assumption) ?_
      rotate_left
      ·intro w hSw; obtain ⟨k1, k2, k3⟩ := hSw; (try clear hSw); go_simp; (try with_reducible rfl)
      try simp only [Act.put, List.getElem_toArray, List.getElem_cons_succ, List.getElem_cons_zero, List.setIfInBounds_toArray, List.set_cons_zero, List.set_cons_succ]
      refine tkh 6 ?_ rfl (by kernel_rfl) (fun _ _ _ h => h) ?_ (by assumption) ?_
      rotate_left
      ·intro w hSw; obtain ⟨k1, k2, k3⟩ := hSw; (try clear hSw); go_simp; (try with_reducible rfl)
      try simp only [Act.put, List.getElem_toArray, List.getElem_cons_succ, List.getElem_cons_zero, List.setIfInBounds_toArray, List.set_cons_zero, List.set_cons_succ]
      refine tkh 7 ?_ rfl (by kernel_rfl) (fun _ _ _ h => h) ?_ (by assumption) ?_
      rotate_left
      ·intro w hSw; obtain ⟨k1, k2, k3⟩ := hSw; (try clear hSw); go_simp; (try with_reducible rfl)
      try simp only [Act.put, List.getElem_toArray, List.getElem_cons_succ, List.getElem_cons_zero, List.setIfInBounds_toArray, List.set_cons_zero, List.set_cons_succ]
      refine tkh 8 ?_ rfl (by kernel_rfl) (fun _ _ _ h => h) ?_ (by assumption) ?_
      rotate_left
      ·intro w hSw; obtain ⟨k1, k2, k3⟩ := hSw; (try clear hSw); go_simp; (try with_reducible rfl)
      try simp only [Act.put, List.getElem_toArray, List.getElem_cons_succ, List.getElem_cons_zero, List.setIfInBounds_toArray, List.set_cons_zero, List.set_cons_succ]
      refine tkh 10 ?_ rfl (by kernel_rfl) (fun _ _ _ h => h) ?_ (by assumption) ?_
      rotate_left
      ·intro w hSw; obtain ⟨k1, k2, k3⟩ := hSw; (try clear hSw); go_simp; (try with_reducible rfl)
      try simp only [Act.put, List.getElem_toArray, List.getElem_cons_succ, List.getElem_cons_zero, List.setIfInBounds_toArray, List.set_cons_zero, List.set_cons_succ]
      refine wpAnyH_ready (rs := [9, 11]) (by kernel_rfl) (by simp) ?_
      refine AllReadyH.cons rfl (fun K hK => ?_) (AllReadyH.cons rfl (fun K hK => ?_) AllReadyH.nil)
      obtain ⟨va, wa, hapA, ownA, grA⟩ := jw (c := cA) (w := wA.drew) (World.ownsRow_nil _ wA.heap.size 46 1) (Nat.le_refl _) ((zy EA).len.trans (Nat.mul_one _).symm) (zy EA).one ((zy XA).later (show Below w.heap.size w wA.drew from ⟨(zy BWA).os, (zy BWA).tape, (zy BWA).output, (zy BWA).size, (zy BWA).block⟩)) (by omega)
      have bA : Below wA.heap.size wA wa := ⟨grA.os, grA.tape, grA.output, grA.size, fun k hk => grA.block k hk (by simp [Value.ownBlock])⟩
      obtain ⟨vb, wb, hapB, ownB, grB⟩ := jw (w := (wa.alloc (.cells #[.slice aa la.length ca] 46))) (ownA.alloc (.cells #[.slice aa la.length ca] 46)) (by simp; have := bA.size; omega) (x := some ⟨wa.heap.size, 0, none⟩) (m := 1) (c := 1) (ds := [.slice aa la.length ca]) rfl (by simp [Value.oneCell']) (srcOne (heap_alloc_new wa _)) (by omega)
      have bB : Below wA.heap.size wA wb := (bA.trans ((Below.new1 (w := wa) (.cells #[.slice aa la.length ca] 46)).mono bA.size)).grown grB (by simp; have := bA.size; omega) (fun k hk => (ownA.lt k hk).1)
      rw [Nat.zero_add] at ownA ownB
      rw [List.nil_append] at ownB
      obtain ⟨gb, kb, rfl, -, -⟩ := ownB.form (by omega)
      refine vi rfl _ _ 43 43 rfl rfl _ _ rfl rfl hapA ?_
      refine hK.out _ _ ((zy S0).later bA) (fun hHeld => ?_)
      clear hK K
      try simp only [Act.put, List.getElem_toArray, List.getElem_cons_succ, List.getElem_cons_zero, List.setIfInBounds_toArray, List.set_cons_zero, List.set_cons_succ]
      refine wpAnyH_ready (rs := [11]) (by kernel_rfl) (by simp) ?_
      refine AllReadyH.cons rfl (fun K hK => ?_) AllReadyH.nil
      go_simp
      refine hK.out _ _ ((zy S0).later (bA.trans ((Below.new1 (w := wa) (.cells #[.slice aa la.length ca] 46)).mono bA.size))) (fun hHeld => ?_)
      clear hK K
      try simp only [Act.put, List.getElem_toArray, List.getElem_cons_succ, List.getElem_cons_zero, List.setIfInBounds_toArray, List.set_cons_zero, List.set_cons_succ]
      refine wpAnyH_ready (rs := [12]) (by kernel_rfl) (by simp) ?_
      refine AllReadyH.cons rfl (fun K hK => ?_) AllReadyH.nil
      refine vi rfl _ _ 43 43 rfl rfl _ _ rfl rfl hapB ?_
      have own8 := (zy OWN5).kept (kx bB) (.inr (by simp [Value.ownBlock]))
      have st0 : wb.cell? ⟨g5, 3 * i, none⟩ = some ((csP).getD (3 * i) undef) := by rw [own8.cellAt (3 * i) (by omega), List.getD_eq_getElem?_getD, List.getElem?_eq_getElem (by rw [(zy OWN5).1]; omega)]; rfl
      have st1 : wb.frozen? ⟨g5, 3 * i, none⟩ = false := own8.frozenAt (3 * i)
      have PA := zx (putA (zy EP) (zy BWA) (zy OWN5) bB ownB (zy EA) (zy HA) (zy HIP))
      have SX := (zy S0).of (fun x hx => show (wb.setCell ⟨g5, 3 * i, none⟩ (.slice (some ⟨gb, 0, none⟩) (p.1.length + 1) kb)).heap[x]? = wA.heap[x]? from by rcases (zy SLT) x hx with ⟨s1, s2⟩; rw [(zy PA).far x _ s1 (Array.getElem?_eq_getElem s2), Array.getElem?_eq_getElem s2])
      have bB2 := zx bB
      clear own8 bB ownB
      refine hK.out _ _ ((zy S0).later (zy bB2)) (fun hHeld => ?_)
      clear hK K
      try simp only [Act.put, List.getElem_toArray, List.getElem_cons_succ, List.getElem_cons_zero, List.setIfInBounds_toArray, List.set_cons_zero, List.set_cons_succ]
      refine tkh 13 ?_ rfl (by kernel_rfl) (fun _ _ _ h => h) ?_ (by assumption) ?_
      rotate_left
      ·intro w hSw; obtain ⟨k1, k2, k3⟩ := hSw; (try clear hSw); go_simp; (try with_reducible rfl)
      try simp only [Act.put, List.getElem_toArray, List.getElem_cons_succ, List.getElem_cons_zero, List.setIfInBounds_toArray, List.set_cons_zero, List.set_cons_succ]
      refine tkh 14 ?_ rfl (by kernel_rfl) (fun _ _ _ h => h) ?_ (by assumption) ?_
      rotate_left
      ·intro w hSw; obtain ⟨k1, k2, k3⟩ := hSw; (try clear hSw); go_simp; (try with_reducible rfl)
      try simp only [Act.put, List.getElem_toArray, List.getElem_cons_succ, List.getElem_cons_zero, List.setIfInBounds_toArray, List.set_cons_zero, List.set_cons_succ]
      refine wpAnyH_ready (rs := [15]) (by kernel_rfl) (by simp) ?_
      refine AllReadyH.cons rfl (fun K hK => ?_) AllReadyH.nil
      go_simp
      refine hK.out _ _ (SX) (fun hHeld => ?_)
      clear hK K
      try simp only [Act.put, List.getElem_toArray, List.getElem_cons_succ, List.getElem_cons_zero, List.setIfInBounds_toArray, List.set_cons_zero, List.set_cons_succ]
      refine wpAnyH_done (by kernel_rfl) ?_ _
      clear st0 st1 SX hHeld hapA hapB
      rotate_left
      obtain ⟨va, wa, hapA, ownA, grA⟩ := jw (c := cA) (w := (wA.alloc (.cells #[.slice aa la.length ca] 46)).drew) (World.ownsRow_nil _ wA.heap.size 46 1) (by simp) ((zy EA).len.trans (Nat.mul_one _).symm) (zy EA).one ((zy XA).later (show Below w.heap.size w (wA.alloc (.cells #[.slice aa la.length ca] 46)).drew from (by have q := (zy BWA).alloc (zy BWA).size (.cells #[.slice aa la.length ca] 46); exact ⟨q.os, q.tape, q.output, q.size, q.block⟩))) (by omega)
      have bN := Below.new1 (w := wA) (.cells #[.slice aa la.length ca] 46)
      have bA : Below wA.heap.size wA wa := bN.trans ⟨grA.os, grA.tape, grA.output, grA.size, fun k hk => grA.block k (Nat.lt_of_lt_of_le hk bN.size) (by simp [Value.ownBlock])⟩
      have kN : wa.heap[wA.heap.size]? = some (.cells #[.slice aa la.length ca] 46) := (grA.block wA.heap.size (by simp) (by simp [Value.ownBlock])).trans (heap_alloc_new wA _)
      obtain ⟨vb, wb, hapB, ownB, grB⟩ := jw (w := wa) ownA bA.size (x := some ⟨wA.heap.size, 0, none⟩) (m := 1) (c := 1) (ds := [.slice aa la.length ca]) rfl (by simp [Value.oneCell']) (srcOne kN) (by omega)
      have bB : Below wA.heap.size wA wb := bA.grown grB bA.size (fun k hk => (ownA.lt k hk).1)
      clear bN kN
      rw [Nat.zero_add] at ownA ownB
      rw [List.nil_append] at ownB
      obtain ⟨gb, kb, rfl, -, -⟩ := ownB.form (by omega)
      go_simp
      refine hK.out _ _ (show (S3 bx w.heap.size gp (off + 3 * i) (.slice (some ⟨g5, 0, none⟩) P.length k5) (.slice (some ⟨gp, off, none⟩) P.length c) (.slice aA p.1.length cA)) (wA.alloc (.cells #[.slice aa la.length ca] 46)) from (zy S0).later (Below.new1 (w := wA) (.cells #[.slice aa la.length ca] 46))) (fun hHeld => ?_)
      clear hK K
      try simp only [Act.put, List.getElem_toArray, List.getElem_cons_succ, List.getElem_cons_zero, List.setIfInBounds_toArray, List.set_cons_zero, List.set_cons_succ]
      refine wpAnyH_ready (rs := [9]) (by kernel_rfl) (by simp) ?_
      refine AllReadyH.cons rfl (fun K hK => ?_) AllReadyH.nil
      refine vi rfl _ _ 43 43 rfl rfl _ _ rfl rfl hapA ?_
      refine hK.out _ _ ((zy S0).later bA) (fun hHeld => ?_)
      clear hK K
      try simp only [Act.put, List.getElem_toArray, List.getElem_cons_succ, List.getElem_cons_zero, List.setIfInBounds_toArray, List.set_cons_zero, List.set_cons_succ]
      refine wpAnyH_ready (rs := [12]) (by kernel_rfl) (by simp) ?_
      refine AllReadyH.cons rfl (fun K hK => ?_) AllReadyH.nil
      refine vi rfl _ _ 43 43 rfl rfl _ _ rfl rfl hapB ?_
      have own8 := (zy OWN5).kept (kx bB) (.inr (by simp [Value.ownBlock]))
      have st0 : wb.cell? ⟨g5, 3 * i, none⟩ = some ((csP).getD (3 * i) undef) := by rw [own8.cellAt (3 * i) (by omega), List.getD_eq_getElem?_getD, List.getElem?_eq_getElem (by rw [(zy OWN5).1]; omega)]; rfl
      have st1 : wb.frozen? ⟨g5, 3 * i, none⟩ = false := own8.frozenAt (3 * i)
      have PA := zx (putA (zy EP) (zy BWA) (zy OWN5) bB ownB (zy EA) (zy HA) (zy HIP))
      have SX := (zy S0).of (fun x hx => show (wb.setCell ⟨g5, 3 * i, none⟩ (.slice (some ⟨gb, 0, none⟩) (p.1.length + 1) kb)).heap[x]? = wA.heap[x]? from by rcases (zy SLT) x hx with ⟨s1, s2⟩; rw [(zy PA).far x _ s1 (Array.getElem?_eq_getElem s2), Array.getElem?_eq_getElem s2])
      have bB2 := zx bB
      clear own8 bB ownB
      refine hK.out _ _ ((zy S0).later (zy bB2)) (fun hHeld => ?_)
      clear hK K
      try simp only [Act.put, List.getElem_toArray, List.getElem_cons_succ, List.getElem_cons_zero, List.setIfInBounds_toArray, List.set_cons_zero, List.set_cons_succ]
      refine tkh 13 ?_ rfl (by kernel_rfl) (fun _ _ _ h => h) ?_ (by assumption) ?_
      rotate_left
      ·intro w hSw; obtain ⟨k1, k2, k3⟩ := hSw; (try clear hSw); go_simp; (try with_reducible rfl)
      try simp only [Act.put, List.getElem_toArray, List.getElem_cons_succ, List.getElem_cons_zero, List.setIfInBounds_toArray, List.set_cons_zero, List.set_cons_succ]
      refine tkh 14 ?_ rfl (by kernel_rfl) (fun _ _ _ h => h) ?_ (by assumption) ?_
      rotate_left
      ·intro w hSw; obtain ⟨k1, k2, k3⟩ := hSw; (try clear hSw); go_simp; (try with_reducible rfl)
      try simp only [Act.put, List.getElem_toArray, List.getElem_cons_succ, List.getElem_cons_zero, List.setIfInBounds_toArray, List.set_cons_zero, List.set_cons_succ]
      refine wpAnyH_ready (rs := [15]) (by kernel_rfl) (by simp) ?_
      refine AllReadyH.cons rfl (fun K hK => ?_) AllReadyH.nil
      go_simp
      refine hK.out _ _ (SX) (fun hHeld => ?_)
      clear hK K
      try simp only [Act.put, List.getElem_toArray, List.getElem_cons_succ, List.getElem_cons_zero, List.setIfInBounds_toArray, List.set_cons_zero, List.set_cons_succ]
      refine wpAnyH_done (by kernel_rfl) ?_ _
      clear st0 st1 SX hHeld hapA hapB
      all_goals
       have GXX := (zy PA).far _ _ (fun e => gbx e.symm) (zy GXA)
       have GGX := (zy PA).far _ _ (show w.heap.size ≠ g5 by omega) (zy GGA)
       generalize hwX : (wb.setCell ⟨g5, 3 * i, none⟩ (.slice (some ⟨gb, 0, none⟩) (p.1.length + 1) kb)) = wX at *
       clear hwX bB2 S0 SLT GXA GGA OWN5 BWA grA grB bA ownA
       obtain ⟨x0, x1, -, -⟩ := zo GXX
       obtain ⟨y0, y1, -, -⟩ := zo GGX
       obtain ⟨v6, w6, hap2, own6, gr6⟩ := prod_append (c := k5) (World.ownsRow_nil (wX.alloc (.cells #[.slice (some ⟨g5, 0, none⟩) P.length k5, .slice aK nK cK] 32)) (wX.heap.size + 1) 45 3) (by simp) (zy PA).own.1 (by
        have := (zy PA).enc.one
        exact this) ((srcOwn (zy PA).own).later (Below.new1 _)) (by omega)
       have GY := heap_alloc_new wX (.cells #[.slice (some ⟨g5, 0, none⟩) P.length k5, .slice aK nK cK] 32)
       have GY6 := (gr6.block wX.heap.size (by simp) (by simp [Value.ownBlock])).trans GY
       obtain ⟨v0, v1, vz0, vz1⟩ := zo GY6
       have xl : bx < wX.heap.size := zw x0
       have wl : w.heap.size < wX.heap.size := zw y0
       have x0a : ∀ o, (wX.alloc o).cell? ⟨bx, 0, none⟩ = some (.slice (some ⟨g5, 0, none⟩) P.length k5) := fun o => (World.cell?_alloc_past _ _ _ xl).trans x0
       have x1a : ∀ o, (wX.alloc o).cell? ⟨bx, 1, none⟩ = some (.slice aK nK cK) := fun o => (World.cell?_alloc_past _ _ _ xl).trans x1
       obtain ⟨g6, k6, rfl, hg6b, hg6l⟩ := own6.form (by omega)
       go_wp2_with (at_builtin; refine app_run rfl _ _ 30 30 rfl rfl _ _ rfl rfl hap2 ?_)
       generalize hcs : csP.set (3 * i) (.slice (some ⟨gb, 0, none⟩) (p.1.length + 1) kb) = cs1 at *
       rw [Nat.zero_add, List.nil_append] at own6
       have ep1 := (zy PA).enc
       have ow1 := (zy PA).own
       rw [hcs] at ep1 ow1
       have EP1 := zx ep1
       have OWNX := zx ow1
       clear hcs ep1 ow1
       have bX6 : Below wX.heap.size wX w6 := (Below.new1 (w := wX) (.cells #[.slice (some ⟨g5, 0, none⟩) P.length k5, .slice aK nK cK] 32)).grown gr6 (by simp) (fun k hk => by simp [Value.ownBlock] at hk)
       have BXY := zx (bX6.setCell (p := ⟨wX.heap.size, 0, none⟩) (by simp only; omega) (.slice (some ⟨g6, 0, none⟩) P.length k6))
       have GYA := zx (heap_setCell_same w6 wX.heap.size 0 _ _ (.slice (some ⟨g6, 0, none⟩) P.length k6) GY6)
       have gby : g6 ≠ wX.heap.size := by omega
       have OWN6 := zx ((YV own6 (show wX.heap.size ≤ wX.heap.size + 1 by omega)).kept (w' := w6.setCell ⟨wX.heap.size, 0, none⟩ (.slice (some ⟨g6, 0, none⟩) P.length k6)) (row := some wX.heap.size) ⟨rfl, rfl, rfl, by simp, fun k _ h2 => heap_setCell_other w6 ⟨wX.heap.size, 0, none⟩ k _ (fun e => h2 (by simp [e]))⟩ (.inr (fun e => gby (Option.some.inj e))))
       have BWX := zx (zy PA).bl
       have BWY := zx ((zy BWX).trans ((zy BXY).mono (zy BWX).size))
       have EA1 := zx ((zy EA).later (zy BWX))
       have HNIL : Hid (SyM wX (.slice none 0 0) []) := ⟨none, 0, rfl, Nat.le_refl _, Nat.zero_le _, fun j s hj => by simp at hj⟩
       obtain ⟨p1, hp1⟩ : ∃ p1 : PRD, p1 = (p.1 ++ [la], p.2) := ⟨_, rfl⟩
       have HIP1 : Hid ((P.set i (p.1 ++ [la], p.2))[i]? = some p1) := by show _ = _; rw [List.getElem?_set, if_pos rfl, if_pos hiL, hp1]
       have GXY := zx (((zy BXY).block bx xl).trans GXX)
       have GGY := zx (((zy BXY).block w.heap.size wl).trans GGX)
       have HGY := zx ((zy HG).later (zy BWY))
       have HP1 := zx hp1
       clear PA GXX GGX own6 gr6 hap2 GY GY6 v0 v1 vz0 vz1 x0a x1a x0 x1 y0 y1 bX6 hp1
       generalize hwY : (w6.setCell ⟨wX.heap.size, 0, none⟩ (.slice (some ⟨g6, 0, none⟩) P.length k6)) = wY at *
       clear hwY
       have g6X : wX.heap.size ≤ g6 := by omega
       have S0 : Hid (S3 wX.heap.size w.heap.size gp (off + 3 * i) (.slice (some ⟨g6, 0, none⟩) P.length k6) (.slice (some ⟨gp, off, none⟩) P.length c) (.slice aA p.1.length cA) wY) := ⟨(zo (zy GYA)).1, (zo (zy GGY)).1, ((zy BWY).cell (p := ⟨gp, off + 3 * i, none⟩) hgp).trans (zy Q0)⟩
       have SLT : Hid (∀ x, x = wX.heap.size ∨ x = w.heap.size ∨ x = gp → x ≠ g6 ∧ x < wY.heap.size) := fun x hx => by
        rcases hx with rfl | rfl | rfl
        ·exact ⟨fun e => gby e.symm, zw (zy S0).1⟩
        ·exact ⟨by omega, zw (zy S0).2.1⟩
        ·exact ⟨by omega, zw (zy S0).2.2⟩
       refine wp_region_held_drew (S := (S3 wX.heap.size w.heap.size gp (off + 3 * i) (.slice (some ⟨g6, 0, none⟩) P.length k6) (.slice (some ⟨gp, off, none⟩) P.length c) (.slice aA p.1.length cA))) (by kernel_rfl) (zy S0) (fun hHeld => ?_)
       refine tkh 0 ?_ rfl (by kernel_rfl) (fun _ _ _ h => h) ?_ (by assumption) ?_
       rotate_left
       ·intro w hSw; obtain ⟨k1, k2, k3⟩ := hSw; (try clear hSw); go_simp; (try with_reducible rfl)
       try simp only [Act.put, List.getElem_toArray, List.getElem_cons_succ, List.getElem_cons_zero, List.setIfInBounds_toArray, List.set_cons_zero, List.set_cons_succ]
       refine tkh 1 ?_ rfl (by kernel_rfl) (fun _ _ _ h => h) ?_ (by assumption) ?_
       rotate_left
       ·intro w hSw; obtain ⟨k1, k2, k3⟩ := hSw; (try clear hSw); go_simp; (try with_reducible rfl)
       try simp only [Act.put, List.getElem_toArray, List.getElem_cons_succ, List.getElem_cons_zero, List.setIfInBounds_toArray, List.set_cons_zero, List.set_cons_succ]
       refine tkh 2 ?_ rfl (by kernel_rfl) (fun _ _ _ h => h) ?_ (by assumption) ?_
       rotate_left
       ·intro w hSw; obtain ⟨k1, k2, k3⟩ := hSw; (try clear hSw); go_simp; (try with_reducible rfl)
       try simp only [Act.put, List.getElem_toArray, List.getElem_cons_succ, List.getElem_cons_zero, List.setIfInBounds_toArray, List.set_cons_zero, List.set_cons_succ]
       refine tkh 3 ?_ rfl (by kernel_rfl) (fun _ _ _ h => h) ?_ (by assumption) ?_
       rotate_left
       ·intro w hSw; obtain ⟨k1, k2, k3⟩ := hSw; (try clear hSw); go_simp; (try with_reducible rfl)
       try simp only [Act.put, List.getElem_toArray, List.getElem_cons_succ, List.getElem_cons_zero, List.setIfInBounds_toArray, List.set_cons_zero, List.set_cons_succ]
       refine tkh 4 ?_ rfl (by kernel_rfl) (fun _ _ _ h => h) ?_ (by assumption) ?_
       rotate_left
       ·intro w hSw; obtain ⟨k1, k2, k3⟩ := hSw; (try clear hSw); go_simp; (try with_reducible rfl)
       try simp only [Act.put, List.getElem_toArray, List.getElem_cons_succ, List.getElem_cons_zero, List.setIfInBounds_toArray, List.set_cons_zero, List.set_cons_succ]
       refine tkh 5 ?_ rfl (by kernel_rfl) (fun _ _ _ h => h) ?_ (by assumption) ?_
       rotate_left
       ·intro w hSw; obtain ⟨k1, k2, k3⟩ := hSw; (try clear hSw); go_simp; (try with_reducible rfl)
       try simp only [Act.put, List.getElem_toArray, List.getElem_cons_succ, List.getElem_cons_zero, List.setIfInBounds_toArray, List.set_cons_zero, List.set_cons_succ]
       refine tkh 6 ?_ rfl (by kernel_rfl) (fun _ _ _ h => h) ?_ (by assumption) ?_
       rotate_left
       ·intro w hSw; obtain ⟨k1, k2, k3⟩ := hSw; (try clear hSw); go_simp; (try with_reducible rfl)
       try simp only [Act.put, List.getElem_toArray, List.getElem_cons_succ, List.getElem_cons_zero, List.setIfInBounds_toArray, List.set_cons_zero, List.set_cons_succ]
       refine tkh 7 ?_ rfl (by kernel_rfl) (fun _ _ _ h => h) ?_ (by assumption) ?_
       rotate_left
       ·intro w hSw; obtain ⟨k1, k2, k3⟩ := hSw; (try clear hSw); go_simp; (try with_reducible rfl)
       try simp only [Act.put, List.getElem_toArray, List.getElem_cons_succ, List.getElem_cons_zero, List.setIfInBounds_toArray, List.set_cons_zero, List.set_cons_succ]
       refine tkh 8 ?_ rfl (by kernel_rfl) (fun _ _ _ h => h) ?_ (by assumption) ?_
       rotate_left
       ·intro w hSw; obtain ⟨k1, k2, k3⟩ := hSw; (try clear hSw); go_simp; (try with_reducible rfl)
       try simp only [Act.put, List.getElem_toArray, List.getElem_cons_succ, List.getElem_cons_zero, List.setIfInBounds_toArray, List.set_cons_zero, List.set_cons_succ]
       refine wpAnyH_ready (rs := [9, 10]) (by kernel_rfl) (by simp) ?_
       refine AllReadyH.cons rfl (fun K hK => ?_) (AllReadyH.cons rfl (fun K hK => ?_) AllReadyH.nil)
       obtain ⟨va, wa, hapA, ownA, grA⟩ := jw (c := cA) (w := wY.drew) (World.ownsRow_nil _ wY.heap.size 46 1) (Nat.le_refl _) ((zy EA1).len.trans (Nat.mul_one _).symm) (zy EA1).one ((zy XA).later (show Below w.heap.size w wY.drew from ⟨(zy BWY).os, (zy BWY).tape, (zy BWY).output, (zy BWY).size, (zy BWY).block⟩)) (by omega)
       have bA : Below wY.heap.size wY wa := ⟨grA.os, grA.tape, grA.output, grA.size, fun k hk => grA.block k hk (by simp [Value.ownBlock])⟩
       obtain ⟨vb, wb, hapB, ownB, grB⟩ := jw (w := (wa.alloc (.cells #[.slice none 0 0] 46))) (ownA.alloc (.cells #[.slice none 0 0] 46)) (by simp; have := bA.size; omega) (x := some ⟨wa.heap.size, 0, none⟩) (m := 1) (c := 1) (ds := [.slice none 0 0]) rfl (by simp [Value.oneCell']) (srcOne (heap_alloc_new wa _)) (by omega)
       have bB : Below wY.heap.size wY wb := (bA.trans ((Below.new1 (w := wa) (.cells #[.slice none 0 0] 46)).mono bA.size)).grown grB (by simp; have := bA.size; omega) (fun k hk => (ownA.lt k hk).1)
       rw [Nat.zero_add] at ownA ownB
       rw [List.nil_append] at ownB
       obtain ⟨gb, kb, rfl, -, -⟩ := ownB.form (by omega)
       refine vi rfl _ _ 43 43 rfl rfl _ _ rfl rfl hapA ?_
       refine hK.out _ _ ((zy S0).later bA) (fun hHeld => ?_)
       clear hK K
       try simp only [Act.put, List.getElem_toArray, List.getElem_cons_succ, List.getElem_cons_zero, List.setIfInBounds_toArray, List.set_cons_zero, List.set_cons_succ]
       refine wpAnyH_ready (rs := [10]) (by kernel_rfl) (by simp) ?_
       refine AllReadyH.cons rfl (fun K hK => ?_) AllReadyH.nil
       go_simp
       refine hK.out _ _ ((zy S0).later (bA.trans ((Below.new1 (w := wa) (.cells #[.slice none 0 0] 46)).mono bA.size))) (fun hHeld => ?_)
       clear hK K
       try simp only [Act.put, List.getElem_toArray, List.getElem_cons_succ, List.getElem_cons_zero, List.setIfInBounds_toArray, List.set_cons_zero, List.set_cons_succ]
       refine wpAnyH_ready (rs := [11]) (by kernel_rfl) (by simp) ?_
       refine AllReadyH.cons rfl (fun K hK => ?_) AllReadyH.nil
       refine vi rfl _ _ 43 43 rfl rfl _ _ rfl rfl hapB ?_
       have own8 := (zy OWN6).kept (kx bB) (.inr (by simp [Value.ownBlock]))
       have st0 : wb.cell? ⟨g6, 3 * i, none⟩ = some ((cs1).getD (3 * i) undef) := by rw [own8.cellAt (3 * i) (by omega), List.getD_eq_getElem?_getD, List.getElem?_eq_getElem (by rw [(zy OWN6).1]; omega)]; rfl
       have st1 : wb.frozen? ⟨g6, 3 * i, none⟩ = false := own8.frozenAt (3 * i)
       have PB := zx (putA (zy EP1) (zy BXY) (zy OWN6) bB ownB (zy EA1) (zy HNIL) (zy HIP1))
       have SX := (zy S0).of (fun x hx => show (wb.setCell ⟨g6, 3 * i, none⟩ (.slice (some ⟨gb, 0, none⟩) (p.1.length + 1) kb)).heap[x]? = wY.heap[x]? from by rcases (zy SLT) x hx with ⟨s1, s2⟩; rw [(zy PB).far x _ s1 (Array.getElem?_eq_getElem s2), Array.getElem?_eq_getElem s2])
       have bB2 := zx bB
       clear own8 bB ownB
       refine hK.out _ _ ((zy S0).later (zy bB2)) (fun hHeld => ?_)
       clear hK K
       try simp only [Act.put, List.getElem_toArray, List.getElem_cons_succ, List.getElem_cons_zero, List.setIfInBounds_toArray, List.set_cons_zero, List.set_cons_succ]
       refine tkh 12 ?_ rfl (by kernel_rfl) (fun _ _ _ h => h) ?_ (by assumption) ?_
       rotate_left
       ·intro w hSw; obtain ⟨k1, k2, k3⟩ := hSw; (try clear hSw); go_simp; (try with_reducible rfl)
       try simp only [Act.put, List.getElem_toArray, List.getElem_cons_succ, List.getElem_cons_zero, List.setIfInBounds_toArray, List.set_cons_zero, List.set_cons_succ]
       refine tkh 13 ?_ rfl (by kernel_rfl) (fun _ _ _ h => h) ?_ (by assumption) ?_
       rotate_left
       ·intro w hSw; obtain ⟨k1, k2, k3⟩ := hSw; (try clear hSw); go_simp; (try with_reducible rfl)
       try simp only [Act.put, List.getElem_toArray, List.getElem_cons_succ, List.getElem_cons_zero, List.setIfInBounds_toArray, List.set_cons_zero, List.set_cons_succ]
       refine wpAnyH_ready (rs := [14]) (by kernel_rfl) (by simp) ?_
       refine AllReadyH.cons rfl (fun K hK => ?_) AllReadyH.nil
       go_simp
       refine hK.out _ _ (SX) (fun hHeld => ?_)
       clear hK K
       try simp only [Act.put, List.getElem_toArray, List.getElem_cons_succ, List.getElem_cons_zero, List.setIfInBounds_toArray, List.set_cons_zero, List.set_cons_succ]
       refine wpAnyH_done (by kernel_rfl) ?_ _
       clear st0 st1 SX hHeld hapA hapB
       rotate_left
       obtain ⟨va, wa, hapA, ownA, grA⟩ := jw (c := cA) (w := (wY.alloc (.cells #[.slice none 0 0] 46)).drew) (World.ownsRow_nil _ wY.heap.size 46 1) (by simp) ((zy EA1).len.trans (Nat.mul_one _).symm) (zy EA1).one ((zy XA).later (show Below w.heap.size w (wY.alloc (.cells #[.slice none 0 0] 46)).drew from (by have q := (zy BWY).alloc (zy BWY).size (.cells #[.slice none 0 0] 46); exact ⟨q.os, q.tape, q.output, q.size, q.block⟩))) (by omega)
       have bN := Below.new1 (w := wY) (.cells #[.slice none 0 0] 46)
       have bA : Below wY.heap.size wY wa := bN.trans ⟨grA.os, grA.tape, grA.output, grA.size, fun k hk => grA.block k (Nat.lt_of_lt_of_le hk bN.size) (by simp [Value.ownBlock])⟩
       have kN : wa.heap[wY.heap.size]? = some (.cells #[.slice none 0 0] 46) := (grA.block wY.heap.size (by simp) (by simp [Value.ownBlock])).trans (heap_alloc_new wY _)
       obtain ⟨vb, wb, hapB, ownB, grB⟩ := jw (w := wa) ownA bA.size (x := some ⟨wY.heap.size, 0, none⟩) (m := 1) (c := 1) (ds := [.slice none 0 0]) rfl (by simp [Value.oneCell']) (srcOne kN) (by omega)
       have bB : Below wY.heap.size wY wb := bA.grown grB bA.size (fun k hk => (ownA.lt k hk).1)
       clear bN kN
       rw [Nat.zero_add] at ownA ownB
       rw [List.nil_append] at ownB
       obtain ⟨gb, kb, rfl, -, -⟩ := ownB.form (by omega)
       go_simp
       refine hK.out _ _ (show (S3 wX.heap.size w.heap.size gp (off + 3 * i) (.slice (some ⟨g6, 0, none⟩) P.length k6) (.slice (some ⟨gp, off, none⟩) P.length c) (.slice aA p.1.length cA)) (wY.alloc (.cells #[.slice none 0 0] 46)) from (zy S0).later (Below.new1 (w := wY) (.cells #[.slice none 0 0] 46))) (fun hHeld => ?_)
       clear hK K
       try simp only [Act.put, List.getElem_toArray, List.getElem_cons_succ, List.getElem_cons_zero, List.setIfInBounds_toArray, List.set_cons_zero, List.set_cons_succ]
       refine wpAnyH_ready (rs := [9]) (by kernel_rfl) (by simp) ?_
       refine AllReadyH.cons rfl (fun K hK => ?_) AllReadyH.nil
       refine vi rfl _ _ 43 43 rfl rfl _ _ rfl rfl hapA ?_
       refine hK.out _ _ ((zy S0).later bA) (fun hHeld => ?_)
       clear hK K
       try simp only [Act.put, List.getElem_toArray, List.getElem_cons_succ, List.getElem_cons_zero, List.setIfInBounds_toArray, List.set_cons_zero, List.set_cons_succ]
       refine wpAnyH_ready (rs := [11]) (by kernel_rfl) (by simp) ?_
       refine AllReadyH.cons rfl (fun K hK => ?_) AllReadyH.nil
       refine vi rfl _ _ 43 43 rfl rfl _ _ rfl rfl hapB ?_
       have own8 := (zy OWN6).kept (kx bB) (.inr (by simp [Value.ownBlock]))
       have st0 : wb.cell? ⟨g6, 3 * i, none⟩ = some ((cs1).getD (3 * i) undef) := by rw [own8.cellAt (3 * i) (by omega), List.getD_eq_getElem?_getD, List.getElem?_eq_getElem (by rw [(zy OWN6).1]; omega)]; rfl
       have st1 : wb.frozen? ⟨g6, 3 * i, none⟩ = false := own8.frozenAt (3 * i)
       have PB := zx (putA (zy EP1) (zy BXY) (zy OWN6) bB ownB (zy EA1) (zy HNIL) (zy HIP1))
       have SX := (zy S0).of (fun x hx => show (wb.setCell ⟨g6, 3 * i, none⟩ (.slice (some ⟨gb, 0, none⟩) (p.1.length + 1) kb)).heap[x]? = wY.heap[x]? from by rcases (zy SLT) x hx with ⟨s1, s2⟩; rw [(zy PB).far x _ s1 (Array.getElem?_eq_getElem s2), Array.getElem?_eq_getElem s2])
       have bB2 := zx bB
       clear own8 bB ownB
       refine hK.out _ _ ((zy S0).later (zy bB2)) (fun hHeld => ?_)
       clear hK K
       try simp only [Act.put, List.getElem_toArray, List.getElem_cons_succ, List.getElem_cons_zero, List.setIfInBounds_toArray, List.set_cons_zero, List.set_cons_succ]
       refine tkh 12 ?_ rfl (by kernel_rfl) (fun _ _ _ h => h) ?_ (by assumption) ?_
       rotate_left
       ·intro w hSw; obtain ⟨k1, k2, k3⟩ := hSw; (try clear hSw); go_simp; (try with_reducible rfl)
       try simp only [Act.put, List.getElem_toArray, List.getElem_cons_succ, List.getElem_cons_zero, List.setIfInBounds_toArray, List.set_cons_zero, List.set_cons_succ]
       refine tkh 13 ?_ rfl (by kernel_rfl) (fun _ _ _ h => h) ?_ (by assumption) ?_
       rotate_left
       ·intro w hSw; obtain ⟨k1, k2, k3⟩ := hSw; (try clear hSw); go_simp; (try with_reducible rfl)
       try simp only [Act.put, List.getElem_toArray, List.getElem_cons_succ, List.getElem_cons_zero, List.setIfInBounds_toArray, List.set_cons_zero, List.set_cons_succ]
       refine wpAnyH_ready (rs := [14]) (by kernel_rfl) (by simp) ?_
       refine AllReadyH.cons rfl (fun K hK => ?_) AllReadyH.nil
       go_simp
       refine hK.out _ _ (SX) (fun hHeld => ?_)
       clear hK K
       try simp only [Act.put, List.getElem_toArray, List.getElem_cons_succ, List.getElem_cons_zero, List.setIfInBounds_toArray, List.set_cons_zero, List.set_cons_succ]
       refine wpAnyH_done (by kernel_rfl) ?_ _
       clear st0 st1 SX hHeld hapA hapB
       all_goals
        have GYZ := (zy PB).far _ _ (fun e => gby e.symm) (zy GYA)
        have GXZ := (zy PB).far _ _ (show bx ≠ g6 by omega) (zy GXY)
        have GGZ := (zy PB).far _ _ (show w.heap.size ≠ g6 by omega) (zy GGY)
        generalize hwZ : (wb.setCell ⟨g6, 3 * i, none⟩ (.slice (some ⟨gb, 0, none⟩) (p.1.length + 1) kb)) = wZ at *
        obtain ⟨BZ0, OWZ, EPZ, -⟩ := zy PB
        rw [List.set_set] at EPZ
        have BZ := zx ((zy BWX).trans (BZ0.mono (zy BWX).size))
        have GRX := zx ((grM_row (aK := aK) (zy OWNX) (zy EP1) (by simp) (zy HNK) (zy HKK).1 (zy HKK).2).later BZ0)
        have GRY := zx (grM_row (aK := aK) OWZ EPZ (by simp) (zy HNK) (zy HKK).1 (zy HKK).2)
        have GRG := zx ((zy HG).later (zy BZ))
        have NI := zx (zy HNI p1.2)
        have N2 := zx (zy HM2 p1.2)
        have hl1 : Hid ((P.set i (p.1 ++ [la], p.2)).length = P.length) := by show _ = _; simp
        have hl2 : Hid ((P.set i (p.1 ++ [[]], p1.2)).length = P.length) := by show _ = _; simp
        clear hwZ PB GYA GXY GGY OWN6 EP1 EA1 HNIL HIP1 BXY BWY HGY OWNX S0 SLT bB2 bA ownA grA grB BZ0 OWZ EPZ HM2 HNI HP1 Q0 HIP EA XA
        generalize P.set i (p.1 ++ [[]], p1.2) = P2 at *
        generalize P.set i (p.1 ++ [la], p.2) = P1 at *
        have N1 := HM1
        clear HM1
        obtain ⟨g0, g1, -, -⟩ := zo GGZ
        have CN1 := zx (fun W (bW : Below wZ.heap.size wZ W) => zy CN _ _ W ((zy GRG).later bW))
        have CN2 := zx (fun W (bW : Below wZ.heap.size wZ W) => zy CN _ _ W ((zy GRX).later bW))
        have CN3 := zx (fun W (bW : Below wZ.heap.size wZ W) => zy CN _ _ W ((zy GRY).later bW))
        have CG2 := zx (fun W (bW : Below wZ.heap.size wZ W) => show Calls Tryz.prog 28 #[.agg #[.slice (some ⟨g5, 0, none⟩) P.length k5, .slice aK nK cK]] W fun e w' => e = .returned (.bool (Zx P1)) ∧ Below W.heap.size W w' from zy CG _ (P1, K) W ((zy GRX).later bW))
        have CG3 := zx (fun W (bW : Below wZ.heap.size wZ W) => show Calls Tryz.prog 28 #[.agg #[.slice (some ⟨g6, 0, none⟩) P.length k6, .slice aK nK cK]] W fun e w' => e = .returned (.bool (Zx P2)) ∧ Below W.heap.size W w' from zy CG _ (P2, K) W ((zy GRY).later bW))
        have e1 : Hid (qk (P, K) = nuL P) := by show _ = _; unfold qk; rw [if_pos hg]
        clear CN CG GRG GRX GRY CM
        go_wp2_with fail
        refine (zy CN1 _ (Below.refl _ _)).mono ?_
        rintro e wa1 ⟨r1, rfl, hb1, b1⟩
        rw [zy e1] at hb1
        have ce1 := ceOwn (enc := Value.bool) hb1
        obtain ⟨a1, c1, rfl, hr1, hr2, -⟩ := id ce1
        rw [nu_len] at ce1 hr1 ⊢
        unfold maxLen at hr2
        have B1 := zx b1
        have GX1 := (b1.block _ (Array.getElem?_eq_some_iff.1 GXZ).1).trans GXZ
        clear CN1 e1 hb1 b1 g0 g1
        obtain ⟨g0, g1, -, -⟩ := zo GX1
        go_wp2_with fail
        refine (zy CN2 _ (zy B1)).mono ?_
        rintro e wa2 ⟨r2, rfl, hb2, b2⟩
        have CE1 := zx (ce1.later b2)
        have B2 := zx (yk (zy B1) b2)
        have GY2 := ((zy B2).block _ (Array.getElem?_eq_some_iff.1 GYZ).1).trans GYZ
        have HB2 := zx (ceOwn (enc := Value.bool) hb2)
        obtain ⟨a2, c2, rfl, hs1, hs2, -⟩ := id (zy HB2)
        unfold maxLen at hs2
        clear CN2 hb2 b2 g0 g1 ce1 B1 GX1
        obtain ⟨g0, g1, -, -⟩ := zo GY2
        go_wp2_with fail
        refine (zy CN3 _ (zy B2)).mono ?_
        rintro e wa3 ⟨r3, rfl, hb3, b3⟩
        have CE1 := zx ((zy CE1).later b3)
        have CE2 := zx ((zy HB2).later b3)
        have B3 := zx (yk (zy B2) b3)
        have CE3 := zx (ceOwn (enc := Value.bool) hb3)
        obtain ⟨a3, c3, rfl, ht1, ht2, -⟩ := id (zy CE3)
        unfold maxLen at ht2
        have GX3 := ((zy B3).block _ (Array.getElem?_eq_some_iff.1 GXZ).1).trans GXZ
        clear CN3 hb3 b3 g0 g1 HB2 B2 GY2
        obtain ⟨g0, g1, -, -⟩ := zo GX3
        cases hg1 : Zx P1 with
        | false =>
         have e2 : qk (P1, K) = [] := by unfold qk; rw [if_neg (by simp [hg1])]
         rw [e2] at hs1 ⊢
         rw [hg1] at CG2
         clear e2 hg1 N1 N2 NI hl1 hl2 CE1 CE2 CE3 CG3
         go_wp2_with fail
         refine (zy CG2 _ (zy B3)).mono ?_
         rintro e wa4 ⟨rfl, b4⟩
         have B4 := zx (yk (zy B3) b4)
         have GX4 := ((zy B4).block _ (Array.getElem?_eq_some_iff.1 GXZ).1).trans GXZ
         clear b4 g0 g1 GX3
         obtain ⟨g0, g1, -, -⟩ := zo GX4
         go_wp2_with fail
         refine (zy CG2 _ (zy B4)).mono ?_
         rintro e wa5 ⟨rfl, b5⟩
         go_wp2_with fail
         go_ret
         exact ⟨rfl, yk (zy BZ) (yk (zy B4) b5)⟩
        | true =>
         have e2 : qk (P1, K) = nuL P1 := by unfold qk; rw [if_pos hg1]
         have ce2 := zy CE2
         rw [e2, nu_len, zy hl1] at ce2 hs1 ⊢
         have CE2 := zx ce2
         rw [hg1] at CG2
         clear e2 ce2 hg1
         have GY3 := ((zy B3).block _ (Array.getElem?_eq_some_iff.1 GYZ).1).trans GYZ
         obtain ⟨y0, y1, -, -⟩ := zo GY3
         go_wp2_with fail
         refine (zy CG2 _ (zy B3)).mono ?_
         rintro e wa4 ⟨rfl, b4⟩
         have B4 := zx (yk (zy B3) b4)
         have GX4 := ((zy B4).block _ (Array.getElem?_eq_some_iff.1 GXZ).1).trans GXZ
         have GY4 := ((zy B4).block _ (Array.getElem?_eq_some_iff.1 GYZ).1).trans GYZ
         have CE1 := zx ((zy CE1).later b4)
         have CE2 := zx ((zy CE2).later b4)
         have CE3 := zx ((zy CE3).later b4)
         clear b4 g0 g1 y0 y1 GX3 GY3
         obtain ⟨g0, g1, -, -⟩ := zo GX4
         obtain ⟨y0, y1, -, -⟩ := zo GY4
         cases hg2 : Zx P2 with
         | false =>
          have e3 : qk (P2, K) = [] := by unfold qk; rw [if_neg (by simp [hg2])]
          rw [e3] at ht1 ⊢
          rw [hg2] at CG3
          clear e3 hg2 N1 N2 NI hl1 hl2 CE1 CE2 CE3
          go_wp2_with fail
          refine (zy CG3 _ (zy B4)).mono ?_
          rintro e wa5 ⟨rfl, b5⟩
          have B5 := zx (yk (zy B4) b5)
          have GX5 := ((zy B5).block _ (Array.getElem?_eq_some_iff.1 GXZ).1).trans GXZ
          clear b5 g0 g1 y0 y1 GX4 GY4
          obtain ⟨g0, g1, -, -⟩ := zo GX5
          go_wp2_with fail
          refine (zy CG2 _ (zy B5)).mono ?_
          rintro e wa6 ⟨rfl, b6⟩
          have B6 := zx (yk (zy B5) b6)
          have GY6 := ((zy B6).block _ (Array.getElem?_eq_some_iff.1 GYZ).1).trans GYZ
          clear b6 g0 g1 GX5
          obtain ⟨y0, y1, -, -⟩ := zo GY6
          go_wp2_with fail
          refine (zy CG3 _ (zy B6)).mono ?_
          rintro e wa7 ⟨rfl, b7⟩
          go_wp2_with fail
          go_ret
          exact ⟨rfl, yk (zy BZ) (yk (zy B6) b7)⟩
         | true =>
          have e3 : qk (P2, K) = nuL P2 := by unfold qk; rw [if_pos hg2]
          have ce3 := zy CE3
          rw [e3, nu_len, zy hl2] at ce3 ht1 ⊢
          rw [hg2] at CG3
          clear e3 hg2 CG2
          go_wp2_with fail
          refine (zy CG3 _ (zy B4)).mono ?_
          rintro e wa5 ⟨rfl, b5⟩
          have B5 := zx (yk (zy B4) b5)
          have GG5 := ((zy B5).block _ (Array.getElem?_eq_some_iff.1 GGZ).1).trans GGZ
          have CE1 := zx ((zy CE1).later b5)
          have CE2 := zx ((zy CE2).later b5)
          have CE3 := zx (ce3.later b5)
          have BEL := zx (yk (zy BZ) (zy B5))
          clear b5 ce3 g0 g1 y0 y1 GX4 GY4 CG3 B3 B4 B5 BZ hA1 hA2 hp8
          obtain ⟨g0, g1, -, -⟩ := zo GG5
          go_wp2_with fail
          go_loop [14] (fun v => ∃ j : Nat, j ≤ P.length ∧ v = .int .i64 (j : Int)) (fun v => P.length - (intOf v).toNat)
          case atStart => exact ⟨0, Nat.zero_le _, rfl⟩
          case round =>
           obtain ⟨j, hj, rfl⟩ := hrel
           by_cases hlt : j < P.length
           ·obtain ⟨z1, hz1⟩ : ∃ z, (nuL P)[j]? = some z := ⟨(nuL P)[j]'(by rw [nu_len]; exact hlt), by simp⟩
            obtain ⟨z2, hz2⟩ : ∃ z, (nuL P1)[j]? = some z := ⟨(nuL P1)[j]'(by rw [nu_len, zy hl1]; exact hlt), by simp⟩
            obtain ⟨z3, hz3⟩ : ∃ z, (nuL P2)[j]? = some z := ⟨(nuL P2)[j]'(by rw [nu_len, zy hl2]; exact hlt), by simp⟩
            have gd : ∀ (Q : List PRD) (z : Bool), (nuL Q)[j]? = some z → (isN Q (j : Int) ↔ z = true) := fun Q z hz => by
             unfold isN
             rw [Int.toNat_natCast, List.getD_eq_getElem?_getD, hz]
             simp
            have i12 : z1 = true → z2 = true := fun h => (gd P1 z2 hz2).1 (zy N1 _ ((gd P z1 hz1).2 h))
            have i13 : z1 = true → z3 = true := fun h => (gd P2 z3 hz3).1 (zy N2 _ ((gd P z1 hz1).2 h))
            obtain ⟨q1, o1, rfl, -, d1⟩ := (zy CE1).get hz1
            obtain ⟨q2, o2, rfl, -, d2⟩ := (zy CE2).get hz2
            obtain ⟨q3, o3, rfl, -, d3'⟩ := (zy CE3).get hz3
            clear hz1 hz2 hz3 gd
            cases z1 with
            | false =>
             clear i12 i13
             go_wp2_with fail
             exact ⟨⟨j + 1, by omega, by simp⟩, by simp [intOf]; omega⟩
            | true =>
             obtain rfl := i12 rfl
             obtain rfl := i13 rfl
             clear i12 i13
             go_wp2_with fail
             exact ⟨⟨j + 1, by omega, by simp⟩, by simp [intOf]; omega⟩
           ·obtain rfl : j = P.length := by omega
            have hz3 : (nuL P2)[i]? = some true := by
             have := (zy NI).2
             rw [Int.toNat_natCast, List.getD_eq_getElem?_getD] at this
             cases hh : (nuL P2)[i]? with
             | none => rw [hh] at this; simp at this
             | some z => rw [hh] at this; simp at this; rw [this]
            obtain ⟨q3, o3, rfl, -, d3'⟩ := (zy CE3).get hz3
            clear hz3
            go_wp2_with fail
            go_ret
            exact ⟨rfl, zy BEL⟩
end Go.Proofs.YtnfgobgflcmepaaGreatDoor.Nl
