/- Parts of the proof of NullJoin that stand ahead of it (36: NlLf, NlSame, NlAwake, NlLJoin). -/
import Derived.Test.YtnfgobgflcmepaaGreatDoorNullJoinM34
import Derived.Test.YtnfgobgflcmepaaGreatDoorNullJoinM27
import Derived.Test.YtnfgobgflcmepaaGreatDoorNullJoinM33
import Derived.Deep.RegionHeld3
import Derived.Deep.RegionWith
import Derived.Deep.AppendLies
import Derived.Test.YtnfgobgflcmepaaGreatDoorNullJoinM18
set_option linter.unusedVariables false
set_option linter.unusedSimpArgs false
set_option maxRecDepth 20000
set_option maxHeartbeats 16000000
namespace Go.Proofs.YtnfgobgflcmepaaGreatDoor.Nl
open Go.RowKit Go.Shelf Go.Proofs.YtnfgobgflcmepaaGreatDoor.T Go.Proofs.YtnfgobgflcmepaaGreatDoor.R Go.Proofs.YtnfgobgflcmepaaGreatDoor.F
def lefL (is : List Bool) : List SY → List Int
 | [] => []
 | s :: l => if s.1 = 2 then s.2.2 :: (if nulS is s = true then lefL is l else []) else []
theorem lef_is {P : List PRD} {E : List Int} (hE : ∀ x, x ∈ E ↔ isN P x) : ∀ l : List SY, kq E l = lefL (nuL P) l := by
 intro l
 induction l with
 | nil => rfl
 | cons s l ih =>
  unfold kq lefL
  by_cases h2 : s.1 = 2
  ·rw [if_pos h2, if_pos h2, ih]
   by_cases hn : s.2.2 ∈ E
   ·rw [if_pos hn, if_pos (nulS_nu.2 ⟨h2, (hE _).1 hn⟩)]
   ·rw [if_neg hn, if_neg (fun c => hn ((hE _).2 (nulS_nu.1 c).2))]
  ·rw [if_neg h2, if_neg h2]
def leftP (g : GR) (n x : Int) : Prop := Yo g.1 = true ∧ ∃ (i : Nat) (p : PRD) (a : List SY), n = (i : Int) ∧ g.1[i]? = some p ∧ a ∈ p.1 ∧ x ∈ lefL (nuL g.1) a
def LfR (w : World) (g : GR) (n : Int) (e : Ending) (w' : World) : Prop := ∃ v L, e = .returned v ∧ InV w' w.heap.size v L ∧ List.Pairwise (· < ·) L ∧ (∀ x, x ∈ L ↔ leftP g n x) ∧ Below w.heap.size w w'
theorem InV.nil (w : World) (base : Nat) : InV w base (.slice none 0 0) [] := World.ownsRow_nil w base _ _
theorem LfR.none {w w' : World} {g : GR} {n : Int} (h : ∀ x, ¬ leftP g n x) (b : Below w.heap.size w w') : LfR w g n (.returned (.slice none 0 0)) w' :=
 ⟨_, [], rfl, InV.nil _ _, List.Pairwise.nil, fun x => ⟨fun c => (by cases c), fun c => absurd c (h x)⟩, b⟩
structure LfI (w : World) (b bl k1 : Nat) (E pre0 : List Int) (v : Value) (l : List SY) (ds : List Deferred) (pre : List Int) (W : World) : Prop where
 emp : SetV W b E
 set : SetV W bl (pre0 ++ pre)
 sy : SyL W w.heap.size v l
 bx : W.heap[bl + 1]? = some (boxS bl)
 c1 : W.heap[k1]? = some (boxS b)
 c2 : W.heap[k1 + 1]? = some (boxY v)
 bel : Below w.heap.size w W
 mrk : Marks (bl + 2) W ds
 ml : ∀ D, markD D ∈ ds → D < k1
theorem LfI.below {w W W' : World} {b bl k1 : Nat} {E pre0 pre : List Int} {v : Value} {l : List SY} {ds : List Deferred} (h : LfI w b bl k1 E pre0 v l ds pre W) (k : Below (k1 + 2) W W') (hb : b < bl) (hbl : bl + 2 ≤ k1) (hw : w.heap.size ≤ bl) : LfI w b bl k1 E pre0 v l ds pre W' :=
 ⟨h.emp.later k (by omega), h.set.later k (by omega), h.sy.later (k.mono (by omega)), (k.block _ (by omega)).trans h.bx, (k.block _ (by omega)).trans h.c1, (k.block _ (by omega)).trans h.c2, h.bel.trans (k.mono (by omega)),
  h.mrk.keep ds fun D hD hW => (k.block D (by have := h.ml D hD; omega)).trans hW, h.ml⟩
theorem LfI.put {w W W' : World} {b bl k1 : Nat} {E pre0 pre : List Int} {v : Value} {l : List SY} {ds : List Deferred} {x : Int} (h : LfI w b bl k1 E pre0 v l ds pre W) (hs : SetV W' bl ((pre0 ++ pre) ++ [x])) (k : Bo bl W W') (hb : b < bl) (hbl : bl + 2 ≤ k1) (hw : w.heap.size ≤ bl) (hW : k1 + 2 ≤ W.heap.size) : LfI w b bl k1 E pre0 v l ds (pre ++ [x]) W' := by
 have kb : ∀ g, g < W.heap.size → g ≠ bl → W'.heap[g]? = W.heap[g]? := fun g h1 h2 => k.block g h1 (fun e => h2 (by injection e))
 have kB : Below w.heap.size W W' := ⟨k.os, k.tape, k.output, k.size, fun i hi => kb i (by omega) (by omega)⟩
 exact ⟨h.emp.keep (kb _ (by omega) (by omega)), by rw [← List.append_assoc]; exact hs, h.sy.later kB, (kb _ (by omega) (by omega)).trans h.bx, (kb _ (by omega) (by omega)).trans h.c1, (kb _ (by omega) (by omega)).trans h.c2, h.bel.trans kB,
  h.mrk.keep ds fun D hD hX => (kb D (by have := h.ml D hD; omega) (by have := (h.mrk.lt ds D hD).1; omega)).trans hX, h.ml⟩
theorem InV.off {W X : World} {base base' : Nat} {v : Value} {L : List Int} (h : InV W base v L) (hb : base' ≤ base) (k : ∀ (k : Nat) (o : Obj), W.heap[k]? = some o → (∀ x, o ≠ Obj.deferred x) → X.heap[k]? = some o) : InV X base' v L := by
 refine ⟨h.1, ?_⟩
 rcases h.2 with hn | ⟨g, cap, cur, e, h1, hg, rest⟩
 ·exact .inl hn
 ·exact .inr ⟨g, cap, cur, e, Nat.le_trans hb h1, k g _ hg (fun x c => by cases c), rest⟩
theorem box_cell {W : World} {k b : Nat} (h : W.heap[k]? = some (boxS b)) : W.cell? ⟨k, 0, none⟩ = some (.map (some b)) := by simp [World.cell?, h]
def lfT (g0 : Value) (i : Int) (wz b bz : Nat) (sP : Value) (nP : Int) (pp sA : Value) (nA k : Int) (u8 u9 u36 u37 u38 u39 u40 u41 u42 u43 u44 u45 u46 : Value) : Array Value :=
 #[g0, .int .i64 i, .pointer (some ⟨wz, 0, none⟩), undef, .slice none 0 0, .map (some b), .pointer (some ⟨bz + 1, 0, none⟩), undef, u8, u9, g0, .bool true, .bool false, .bool false, .int .i64 i, .bool false, .bool false, .bool false, .int .i64 i,
  .pointer (some ⟨wz, 0, none⟩), sP, .int .i64 nP, .bool false, .bool false, .pointer (some ⟨wz, 0, none⟩), sP, .map (some b), .map (some bz), .pointer (some ⟨wz, 0, none⟩), sP, .int .i64 i, pp, pp, sA, .int .i64 nA, .int .i64 k, u36, u37, u38, u39, u40, u41, u42, u43, u44, u45, u46, undef, undef, undef]
def LfL (w w2 : World) (b : Nat) (E : List Int) (A : List (List SY)) (g0 : Value) (i : Int) (sP : Value) (nP : Int) (pp sA : Value) (a' : Act) (W' : World) : Prop :=
 ∃ (k : Nat) (ki : Int) (ds : List Deferred) (pre : List Int) (u8 u9 u36 u37 u38 u39 u40 u41 u42 u43 u44 u45 u46 : Value),
  ki = (k : Int) ∧ a' = { tmps := lfT g0 i w.heap.size b w2.heap.size sP nP pp sA (A.length : Nat) ki u8 u9 u36 u37 u38 u39 u40 u41 u42 u43 u44 u45 u46, defers := ds } ∧ k ≤ A.length ∧ Hid (pre = (A.take k).flatMap (kq E)) ∧ pre.length ≤ 40 * k ∧
  Hid (SetV W' b E) ∧ Hid (SetV W' w2.heap.size pre) ∧ Hid (W'.heap[w2.heap.size + 1]? = some (boxS w2.heap.size)) ∧ Hid (Below w.heap.size w W') ∧ w2.heap.size + 2 ≤ W'.heap.size ∧ Hid (Marks (w2.heap.size + 2) W' ds)
attribute [local go_sem] Oper.semAt_some
theorem nLefts_yes (v : Value) (g : GR) (i : Nat) (p : PRD) (w : World) (h : GrM w v g) (hg : Yo g.1 = true) (hi : g.1[i]? = some p) :
  Calls Tryz.prog 24 #[v, .int .i64 (i : Int)] w fun e w' => LfR w g (i : Int) e w' := by
 have CM := zx (fun W (bW : Below w.heap.size w W) => fMayM_l v g W (h.later bW))
 obtain ⟨a, c, aK, cK, rfl, hp, -⟩ := id h
 obtain ⟨P, K⟩ := g
 simp only at CM hp hg hi ⊢
 rw [hg] at CM
 obtain ⟨-, h60, h8, h40, ok, hf⟩ := gram_ok hg
 have hmm := @run_makeMap Tryz.prog
 have hx : ∀ args w, (callFunc 91 args).run Tryz.prog w = .ok (.enter 91 args) w := enters_of Tryz.func91 (by kernel_rfl) rfl
 have hpr := hp.prl hf
 have HP := zx hpr
 have CE := zx (fun W (bW : Below w.heap.size w W) => emptyOf_l w.heap.size _ P W ((zy HP).later bW) bW.size h60 h8 ok)
 have hiL := (List.getElem?_eq_some_iff.1 hi).1
 have hmem := List.mem_of_getElem? hi
 have h8p := h8 p hmem
 have H40 := zx (h40 p hmem)
 have HFT := zx (hf p hmem)
 have HLP : Hid (∀ x, leftP (P, K) (i : Int) x ↔ ∃ a ∈ p.1, x ∈ lefL (nuL P) a) := by
  intro x
  constructor
  ·rintro ⟨-, j, q, al, e, hq, ha, hx⟩
   obtain rfl : i = j := by omega
   simp only at hq
   rw [hi] at hq
   injection hq with hq
   subst hq
   exact ⟨al, ha, hx⟩
  ·rintro ⟨al, ha, hx⟩
   exact ⟨hg, i, p, al, rfl, hi, ha, hx⟩
 obtain ⟨a0, c0, e0, hc1, hc2, h3⟩ := hpr
 injection e0 with e1 e2 e3
 subst e1; subst e3
 obtain ⟨gp, off, u, m, x, n', kk, rfl, hgp, q0, q1, q2, hA⟩ := h3 i p hi
 obtain ⟨aA, cA, rfl, hA1, hA2, -⟩ := id hA
 have HA := zx hA
 have Q0 := fun W (bW : Below w.heap.size w W) => (bW.cell (p := ⟨gp, off + 3 * i, none⟩) hgp).trans q0
 unfold maxLen at hc2 hA2
 clear h hp hg h60 h8 h40 ok hf h3 e2 hA hi hmem HP
 have bn : decide ((i : Int) < 0) = false := decide_eq_false (by omega)
 have bm : decide ((P.length : Int) ≤ (i : Int)) = false := decide_eq_false (by omega)
 have i3 : i * 3 = 3 * i := by omega
 generalize K.length = nK at *
 refine (callsIn_wide (n := 8)).1 ?_
 refine callsIn_of_wp_marks Tryz.func24 rfl trivial ?_ rfl
 simp only [Tryz.ntmps24, List.size_toArray, List.length_cons, List.length_nil, Nat.reduceAdd, Nat.reduceSub, Array.replicate_succ, Array.replicate_zero, List.push_toArray, List.append_toArray, List.nil_append, List.cons_append]
 gi_wp2_with fail
 refine ⟨trivial, ?_⟩
 refine (callsIn_wide.2 (zy CM _ (Below.new1 _))).mono ?_
 rintro e w1 ⟨rfl, b1⟩
 clear CM
 have hk1 := nkept b1
 obtain ⟨y0, y1, -, -⟩ := qQ hk1
 have B1 := zx (zX (Below.new1 _) b1)
 clear b1
 gi_wp2_with fail
 refine ⟨trivial, ?_⟩
 refine (callsIn_wide.2 (zy CE _ (zy B1))).mono ?_
 rintro e w2 ⟨b, E, rfl, hS, hE, hwb, b2⟩
 clear CE y0 y1
 have hk2 := (b2.block _ (Array.getElem?_eq_some_iff.1 hk1).1).trans hk1
 have hlt2 := (Array.getElem?_eq_some_iff.1 hk2).1
 have bz : Below w2.heap.size w2 ((w2.alloc (.map #[] 0)).alloc (boxS w2.heap.size)) := (Below.new1 _).alloc (by simp) _
 have hk3 := (bz.block _ hlt2).trans hk2
 obtain ⟨y0, y1, -, -⟩ := qQ hk3
 have B2 := zx (zX (zy B1) b2)
 have B3 := zx (zX (zy B2) bz)
 have s2 := (zy B2).size
 have qq := Q0 _ (zy B3)
 have HS := zx hS
 have HE := zx hE
 clear hS hE b2 hk1 hk2 hk3 B1 Q0 q0 q1 q2
 gi_wp2_with fail
 have hbl := (zy HS).lt
 have Z1 : Hid (SetV ((w2.alloc (.map #[] 0)).alloc (boxS w2.heap.size)) b E) := (zy HS).later bz hbl
 have Z2 : Hid (SetV ((w2.alloc (.map #[] 0)).alloc (boxS w2.heap.size)) w2.heap.size []) := (SetV.new w2).keep ((Below.new1 _).block _ (by simp))
 have Z3 : Hid (((w2.alloc (.map #[] 0)).alloc (boxS w2.heap.size)).heap[w2.heap.size + 1]? = some (boxS w2.heap.size)) := by
  have := heap_alloc_new (w2.alloc (.map #[] 0)) (boxS w2.heap.size)
  rwa [World.size_alloc] at this
 have sz : ((w2.alloc (.map #[] 0)).alloc (boxS w2.heap.size)).heap.size = w2.heap.size + 2 := by simp
 clear bz HS B2 qq y0 y1 hmm
 generalize ((w2.alloc (.map #[] 0)).alloc (boxS w2.heap.size)) = Z at *
 refine wpIn_loop (LfL w w2 b E p.1 (.agg #[.slice (some ⟨gp, off, none⟩) P.length c, .slice aK nK cK]) (i : Int) (.slice (some ⟨gp, off, none⟩) P.length c) (P.length : Nat) (.pointer (some ⟨gp, off + 3 * i, none⟩)) (.slice aA p.1.length cA))
  (fun a' _ => p.1.length - (intOf (a'.tmps.getD 35 undef)).toNat) ?_ ?_
 ·exact ⟨0, 0, [], [], undef, undef, undef, undef, undef, undef, undef, undef, undef, undef, undef, undef, undef, rfl, rfl, Nat.zero_le _, rfl, Nat.zero_le _, Z1, Z2, Z3, B3, by omega, trivial⟩
 ·rintro a' W' ⟨k, ki, ds, pre, u8, u9, u36, u37, u38, u39, u40, u41, u42, u43, u44, u45, u46, rfl, rfl, hk, hO, hlen, hE1, hL, hbx, hB, hsz, hM⟩
  clear Z1 Z2 Z3 B3 sz
  unfold lfT
  by_cases hlt : k < p.1.length
  ·obtain ⟨a', c', e, -, -, h3⟩ := (zy HA).later (zy hB)
   injection e with e1 e2 e3
   subst e1; subst e3
   have hkl : p.1[k]? = some p.1[k] := by simp [hlt]
   obtain ⟨g2, off2, u2, rfl, hg2, r0, hsy⟩ := h3 k p.1[k] hkl
   have hl40 := zy H40 _ (List.getElem_mem hlt)
   have hfl := zx (zy HFT _ (List.getElem_mem hlt))
   have ST : Hid ((p.1.take (k + 1)).flatMap (kq E) = (p.1.take k).flatMap (kq E) ++ kq E p.1[k]) := by
    show _ = _
    rw [List.take_succ_eq_append_getElem hlt, List.flatMap_append]; simp
   obtain ⟨a5, c5, rfl, -⟩ := id hsy
   have HSY := zx hsy
   have CL := zx (lefts_l b a5 (p.1[k]).length c5 W')
   have hll := lef_len (E := E) p.1[k]
   clear h3 hkl e2 hsy
   generalize p.1[k] = l at *
   gi_wp2_with fail
   refine ⟨trivial, ?_⟩
   refine (callsIn_wide.2 (zy CL)).mono ?_
   rintro e w3 ⟨rfl, hw3⟩
   subst hw3
   clear CL
   have sz3 : ((W'.alloc (boxS b)).alloc (boxY (.slice a5 l.length c5))).heap.size = W'.heap.size + 2 := by simp
   have I0 : LfI w b w2.heap.size W'.heap.size E pre (.slice a5 l.length c5) l ds [] ((W'.alloc (boxS b)).alloc (boxY (.slice a5 l.length c5))) := by
    have bb : Below W'.heap.size W' ((W'.alloc (boxS b)).alloc (boxY (.slice a5 l.length c5))) := (Below.new1 _).alloc (by simp) _
    refine ⟨(zy hE1).later bb (zy hE1).lt, by rw [List.append_nil]; exact (zy hL).later bb (zy hL).lt, (zy HSY).later (bb.mono (by omega)), (bb.block _ (by omega)).trans (zy hbx), ?_, ?_, zX (zy hB) bb, (zy hM).later bb, fun D hD => (Array.getElem?_eq_some_iff.1 ((zy hM).lt ds D hD).2).1⟩
    ·exact ((Below.new1 _).block _ (by simp)).trans (heap_alloc_new W' _)
    ·have := heap_alloc_new (W'.alloc (boxS b)) (boxY (.slice a5 l.length c5))
     rwa [World.size_alloc] at this
   clear hE1 hL hbx hB hM HSY
   gi_wp2_with fail
   generalize hZ3 : ((W'.alloc (boxS b)).alloc (boxY (.slice a5 l.length c5))) = Z3 at *
   clear hZ3
   have HI0 := zx I0
   clear I0
   refine rangeMore (n := 8) (by omega) (gf := 91) (cs := #[.pointer (some ⟨W'.heap.size + 1, 0, none⟩), .pointer (some ⟨W'.heap.size, 0, none⟩)]) rfl hx w2.heap.size (by rw [sz3]; omega) (LfI w b w2.heap.size W'.heap.size E pre (.slice a5 l.length c5) l ds)
    (fun q x => ∃ rest, q ++ x :: rest = kq E l) (fun xs => xs = kq E l) (fun q X X' hi k => hi.below (by rw [sz3] at k; exact k) hbl (by omega) s2) (zy HI0)
    (fun x => { tmps := lfT (.agg #[.slice (some ⟨gp, off, none⟩) P.length c, .slice aK nK cK]) (i : Int) w.heap.size b w2.heap.size (.slice (some ⟨gp, off, none⟩) P.length c) (P.length : Nat) (.pointer (some ⟨gp, off + 3 * i, none⟩)) (.slice (some ⟨g2, off2, none⟩) p.1.length cA) (p.1.length : Nat) (k : Int) (.slice a5 l.length c5) (.int .i64 x) (.bool true) (.pointer (some ⟨g2, off2 + k, none⟩)) (.slice a5 l.length c5) (.map (some b)) (.slice a5 l.length c5) (leftsF W'.heap.size (W'.heap.size + 1)) (.int .i64 x) u43 u44 u45 u46, defers := [] })
    ?assign ?body ?iter ?done
   case assign =>
    intro l' x X K' hK
    unfold lfT at hK
    gi_wp2
    exact hK
   case body =>
    rintro l' q x X hI ⟨rest, hx1⟩ hX
    rw [sz3] at hX
    have hql : q.length < l.length := by
     rw [← hx1, List.length_append, List.length_cons] at hll
     omega
    have hxl : x ∈ kq E l := by rw [← hx1]; simp
    obtain ⟨sx, hsx, -, rfl⟩ := lef_sub hxl
    have CP := zx (nput_l w2.heap.size (pre ++ q) sx.2.2 X hI.set (zy hfl sx hsx) (by rw [List.length_append]; omega))
    have q0 : X.cell? ⟨w2.heap.size + 1, 0, none⟩ = some (.map (some w2.heap.size)) := by simp [World.cell?, hI.bx]
    have HI := zx hI
    clear hI hsx hxl hx1
    generalize sx.2.2 = z at *
    unfold lfT
    gi_wp2_with fail
    refine ⟨trivial, ?_⟩
    refine (CallsIn.inRound l' (callsIn_wide.2 (zy CP))).mono ?_
    rintro e X2 ⟨rfl, hs2, hg2⟩
    gi_wp2_with fail
    exact ⟨hg2, (zy HI).put hs2 hg2 hbl (by omega) s2 hX⟩
   case iter =>
    intro lr X J hs hb' hJI hJb hY h0
    rw [sz3] at hs
    refine (lefts_iter 7 (by omega) lr W'.heap.size (W'.heap.size + 1) b w.heap.size w2.heap.size E (.slice a5 l.length c5) l X J (fun q X1 hj => ?_) hJb (fun q x X1 h1 h2 h3 => hY q x X1 h1 h2 h3) (by omega) h0).mono ?_
    ·have := hJI _ _ hj
     exact ⟨this.emp, this.sy, this.c1, this.c2⟩
    ·rintro e X' ⟨hv, hj⟩
     exact ⟨hv, _, rfl, hj⟩
   case done =>
    intro xs X hE' hI hD'
    subst hE'
    have MK : Hid (Marks (w2.heap.size + 2) X (markD Z3.heap.size :: ds)) := ⟨Z3.heap.size, rfl, by rw [sz3]; omega, hD', fun D' hD2 e => by have := hI.ml D' hD2; rw [sz3] at e; omega, hI.mrk⟩
    have hXs : w2.heap.size + 2 ≤ X.heap.size := by have := (Array.getElem?_eq_some_iff.1 hI.c1).1; omega
    have HI := zx hI
    have NX : Hid (pre ++ kq E l = (p.1.take (k + 1)).flatMap (kq E)) := by
     show _ = _
     rw [zy ST, zy hO]
    clear hI hD' HI0
    gi_wp2_with fail
    refine ⟨⟨k + 1, (k : Int) + 1, markD Z3.heap.size :: ds, pre ++ kq E l, _, _, _, _, _, _, _, _, _, _, _, _, _, by omega, rfl, by omega, NX, by rw [List.length_append]; omega, (zy HI).emp, (zy HI).set, (zy HI).bx, (zy HI).bel, hXs, MK⟩, ?_⟩
    simp [intOf]; omega
  ·obtain rfl : k = p.1.length := by omega
   have q0 : W'.cell? ⟨w2.heap.size + 1, 0, none⟩ = some (.map (some w2.heap.size)) := by
    have := zy hbx
    simp [World.cell?, this]
   have CK := zx (keysN_l w2.heap.size W')
   have bb : Below W'.heap.size W' (W'.alloc (boxS w2.heap.size)) := Below.new1 _
   have CS := zx (sortedN_l w2.heap.size W'.heap.size pre (W'.alloc (boxS w2.heap.size)) ((zy hL).later bb (zy hL).lt) (box_cell (heap_alloc_new W' (boxS w2.heap.size))) (by omega))
   have B4 := zx (zX (zy hB) bb)
   have M4 := zx ((zy hM).later bb)
   have MEM : Hid (∀ x, x ∈ pre ↔ leftP (P, K) (i : Int) x) := by
    intro x
    rw [zy HLP x, zy hO, List.take_of_length_le (Nat.le_refl _), List.mem_flatMap]
    constructor
    ·rintro ⟨al, ha, hx⟩
     exact ⟨al, ha, by rw [← lef_is (zy HE)]; exact hx⟩
    ·rintro ⟨al, ha, hx⟩
     exact ⟨al, ha, by rw [lef_is (zy HE)]; exact hx⟩
   have s4 : w2.heap.size + 2 ≤ (W'.alloc (boxS w2.heap.size)).heap.size := by simp; omega
   clear hE1 hL hbx hB hM hO HA H40 HFT HLP HE hx
   gi_wp2_with fail
   refine ⟨trivial, ?_⟩
   refine (callsIn_wide.2 (zy CK)).mono ?_
   rintro e w5 ⟨rfl, hw5⟩
   subst hw5
   gi_wp2_with fail
   refine ⟨trivial, ?_⟩
   refine (callsIn_wide.2 (zy CS)).mono ?_
   rintro e w6 ⟨v6, L, rfl, hp6, hm6, hv6, b6⟩
   have M6 := (zy M4).later b6
   have B6 := zX (zy B4) b6
   have s6 := b6.size
   have H6 := zx (And.intro hp6 (And.intro hm6 hv6))
   clear CK CS hp6 hm6 hv6 b6
   gi_wp2_with fail
   refine Marks.leave _ _ M6 (by omega) fun X bX kX => ?_
   obtain ⟨hp6, hm6, hv6⟩ := zy H6
   refine ⟨_, results_tmp rfl _ _ _, v6, L, rfl, hv6.off (by omega) kX, hp6, fun x => (hm6 x).trans (zy MEM x), B6.trans (bX.mono (by omega))⟩
def eqG {α : Type} (e : α → α → Bool) : List α → List α → Bool
 | [], [] => true
 | x :: l, y :: m => e x y && eqG e l m
 | _, _ => false
theorem eqG_drop {α : Type} (e : α → α → Bool) {l m : List α} {k : Nat} (h : k < l.length) (h2 : k < m.length) : eqG e (l.drop k) (m.drop k) = (e l[k] m[k] && eqG e (l.drop (k + 1)) (m.drop (k + 1))) := by
 rw [List.drop_eq_getElem_cons h, List.drop_eq_getElem_cons h2]; rfl
theorem eqG_len {α : Type} (e : α → α → Bool) : ∀ (l m : List α), l.length ≠ m.length → eqG e l m = false := by
 intro l
 induction l with
 | nil => intro m h; cases m with
  | nil => simp at h
  | cons => rfl
 | cons x l ih =>
  intro m h
  cases m with
  | nil => rfl
  | cons y m => unfold eqG; rw [ih m (by simpa using h)]; simp
def CeV {α : Type} (enc : α → Value) (w : World) (v : Value) (l : List α) : Prop := ∃ a c, v = .slice a l.length c ∧ l.length ≤ c ∧ c ≤ maxLen ∧ ∀ j b, l[j]? = some b → ∃ g off, a = some ⟨g, off, none⟩ ∧ g < w.heap.size ∧ w.cell? ⟨g, off + j, none⟩ = some (enc b)
theorem CeV.later {α : Type} {enc : α → Value} {w X : World} {v : Value} {l : List α} (h : CeV enc w v l) (k : Below w.heap.size w X) : CeV enc X v l := by
 obtain ⟨a, c, e, h1, h2, h3⟩ := h
 refine ⟨a, c, e, h1, h2, fun j b hj => ?_⟩
 obtain ⟨g, off, ha, hg, hc⟩ := h3 j b hj
 exact ⟨g, off, ha, Nat.lt_of_lt_of_le hg k.size, (k.cell (p := ⟨g, off + j, none⟩) hg).trans hc⟩
theorem ceOwn {α : Type} {enc : α → Value} {w : World} {base : Nat} {t : TypeId} {v : Value} {l : List α} (h : w.ownsRow base t 1 v l.length (l.map enc)) : CeV enc w v l := by
 rcases id h.2 with ⟨rfl, h0⟩ | ⟨g, cap, cur, rfl, hb, hg, hn, hm, hsz, ht⟩
 ·refine ⟨none, 0, by rw [h0], by omega, Nat.zero_le _, fun j b hj => ?_⟩
  have := (List.getElem?_eq_some_iff.1 hj).1; omega
 ·refine ⟨_, cap, rfl, hn, hm, fun j b hj => ⟨g, 0, rfl, (Array.getElem?_eq_some_iff.1 hg).1, ?_⟩⟩
  have := World.ownsRow.cells h (g := g) rfl j (enc b) (by rw [List.getElem?_map, hj]; rfl)
  rwa [Addr.add_lit] at this
theorem ceNew {α : Type} {enc : α → Value} {w : World} {g : Nat} {t : TypeId} {l : List α} (h : w.heap[g]? = some (.cells (l.map enc).toArray t)) (hl : l.length ≤ 1000) : CeV enc w (.slice (some ⟨g, 0, none⟩) l.length l.length) l :=
 ⟨_, l.length, rfl, Nat.le_refl _, by unfold maxLen; omega, fun j b hj => ⟨g, 0, rfl, (Array.getElem?_eq_some_iff.1 h).1, by simp [World.cell?, h, hj]⟩⟩
theorem bools_l (v1 v2 : Value) (l m : List Bool) (w : World) (h1 : CeV Value.bool w v1 l) (h2 : CeV Value.bool w v2 m) :
  Calls Tryz.prog 20 #[v1, v2] w fun e w' => e = .returned (.bool (eqG (fun x y => x == y) l m)) ∧ Below w.heap.size w w' := by
 obtain ⟨a, c, rfl, hc1, hc2, h3⟩ := h1
 obtain ⟨a', c', rfl, hd1, hd2, h3'⟩ := h2
 unfold maxLen at hc2 hd2
 have H1 := zx h3
 have H2 := zx h3'
 clear h3 h3'
 by_cases hl : l.length = m.length
 ·have bl : ((l.length : Int) != (m.length : Int)) = false := by simp [hl]
  have HL := zx hl
  clear hl
  go_enter Tryz.func20, Tryz.ntmps20
  go_wp2_with fail
  go_loopw [5] (fun i wr => ∃ (j : Nat), j ≤ l.length ∧ i = .int .i64 (j : Int) ∧ Hid (eqG (fun x y => x == y) l m = eqG (fun x y => x == y) (l.drop j) (m.drop j)) ∧ Hid (Below w.heap.size w wr)) (fun i _ => l.length - (intOf i).toNat)
  case atStart => exact ⟨0, Nat.zero_le _, rfl, rfl, Below.refl _ _⟩
  case round =>
   obtain ⟨j, hj, rfl, hO, hB⟩ := hrel
   by_cases hlt : j < l.length
   ·have hlt2 : j < m.length := by rw [← zy HL]; exact hlt
    obtain ⟨g, off, rfl, hg, q0⟩ := zy H1 j l[j] (by simp [hlt])
    obtain ⟨g', off', rfl, hg', q1⟩ := zy H2 j m[j] (by simp [hlt2])
    have ST := zx (eqG_drop (fun x y => x == y) hlt hlt2)
    have Q0 : ∀ d, (wr.drewN d).cell? ⟨g, off + j, none⟩ = some (Value.bool l[j]) := fun d => ((zy hB).cell (p := ⟨g, off + j, none⟩) hg).trans q0
    have Q1 : ∀ d, (wr.drewN d).cell? ⟨g', off' + j, none⟩ = some (Value.bool m[j]) := fun d => ((zy hB).cell (p := ⟨g', off' + j, none⟩) hg').trans q1
    have R0 := Q0 0
    have R1 := Q1 0
    simp only [World.drewN_zero] at R0 R1
    clear q0 q1
    generalize l[j] = x at *
    generalize m[j] = y at *
    by_cases hxy : x = y
    ·have bn : (x != y) = false := by simp [hxy]
     have be : (x == y) = true := by simp [hxy]
     have NX : Hid (eqG (fun x y => x == y) l m = eqG (fun x y => x == y) (l.drop (j + 1)) (m.drop (j + 1))) := by
      show _ = _
      rw [zy hO, zy ST, hxy]; simp
     clear hxy hO ST
     go_wp2_with fail
     go_quiet (fail)
     go_wp2_with fail
     exact ⟨⟨j + 1, by omega, by simp, NX, (zy hB).trans zv⟩, by simp [intOf]; omega⟩
    ·have bn : (x != y) = true := by simpa using hxy
     have be : (x == y) = false := by simpa using hxy
     have NX : Hid (eqG (fun x y => x == y) l m = false) := by
      show _ = _
      have e : (x == y) = false := by simpa using hxy
      rw [zy hO, zy ST, e]; rfl
     clear hxy hO ST
     go_wp2_with fail
     go_quiet (fail)
     go_wp2_with fail
     go_ret
     exact ⟨qk (zy NX).symm, (zy hB).trans zv⟩
   ·obtain rfl : j = l.length := by omega
    have NX : Hid (eqG (fun x y => x == y) l m = true) := by
     show _ = _
     rw [zy hO, List.drop_eq_nil_of_le (Nat.le_refl _), List.drop_eq_nil_of_le (by rw [zy HL]; exact Nat.le_refl _)]; rfl
    go_wp2_with fail
    go_ret
    exact ⟨qk (zy NX).symm, zy hB⟩
 ·have bl : ((l.length : Int) != (m.length : Int)) = true := by rw [bne_iff_ne]; omega
  have NX := zx (eqG_len (fun x y => x == y) l m hl)
  clear hl H1 H2
  generalize l.length = nl at *
  generalize m.length = nm at *
  go_enter Tryz.func20, Tryz.ntmps20
  go_wp2_with fail
  go_ret
  exact ⟨qk (zy NX).symm, Below.refl _ _⟩
theorem ints_l (v1 v2 : Value) (l m : List Int) (w : World) (h1 : CeV (Value.int .i64) w v1 l) (h2 : CeV (Value.int .i64) w v2 m) :
  Calls Tryz.prog 23 #[v1, v2] w fun e w' => e = .returned (.bool (eqG (fun x y => x == y) l m)) ∧ Below w.heap.size w w' := by
 obtain ⟨a, c, rfl, hc1, hc2, h3⟩ := h1
 obtain ⟨a', c', rfl, hd1, hd2, h3'⟩ := h2
 unfold maxLen at hc2 hd2
 have H1 := zx h3
 have H2 := zx h3'
 clear h3 h3'
 by_cases hl : l.length = m.length
 ·have bl : ((l.length : Int) != (m.length : Int)) = false := by simp [hl]
  have HL := zx hl
  clear hl
  go_enter Tryz.func23, Tryz.ntmps23
  go_wp2_with fail
  go_loopw [5] (fun i wr => ∃ (j : Nat), j ≤ l.length ∧ i = .int .i64 (j : Int) ∧ Hid (eqG (fun x y => x == y) l m = eqG (fun x y => x == y) (l.drop j) (m.drop j)) ∧ Hid (Below w.heap.size w wr)) (fun i _ => l.length - (intOf i).toNat)
  case atStart => exact ⟨0, Nat.zero_le _, rfl, rfl, Below.refl _ _⟩
  case round =>
   obtain ⟨j, hj, rfl, hO, hB⟩ := hrel
   by_cases hlt : j < l.length
   ·have hlt2 : j < m.length := by rw [← zy HL]; exact hlt
    obtain ⟨g, off, rfl, hg, q0⟩ := zy H1 j l[j] (by simp [hlt])
    obtain ⟨g', off', rfl, hg', q1⟩ := zy H2 j m[j] (by simp [hlt2])
    have ST := zx (eqG_drop (fun x y => x == y) hlt hlt2)
    have Q0 : ∀ d, (wr.drewN d).cell? ⟨g, off + j, none⟩ = some ((Value.int .i64) l[j]) := fun d => ((zy hB).cell (p := ⟨g, off + j, none⟩) hg).trans q0
    have Q1 : ∀ d, (wr.drewN d).cell? ⟨g', off' + j, none⟩ = some ((Value.int .i64) m[j]) := fun d => ((zy hB).cell (p := ⟨g', off' + j, none⟩) hg').trans q1
    have R0 := Q0 0
    have R1 := Q1 0
    simp only [World.drewN_zero] at R0 R1
    clear q0 q1
    generalize l[j] = x at *
    generalize m[j] = y at *
    by_cases hxy : x = y
    ·have bn : (x != y) = false := by simp [hxy]
     have be : (x == y) = true := by simp [hxy]
     have NX : Hid (eqG (fun x y => x == y) l m = eqG (fun x y => x == y) (l.drop (j + 1)) (m.drop (j + 1))) := by
      show _ = _
      rw [zy hO, zy ST, hxy]; simp
     clear hxy hO ST
     go_wp2_with fail
     go_quiet (fail)
     go_wp2_with fail
     exact ⟨⟨j + 1, by omega, by simp, NX, (zy hB).trans zv⟩, by simp [intOf]; omega⟩
    ·have bn : (x != y) = true := by simpa using hxy
     have be : (x == y) = false := by simpa using hxy
     have NX : Hid (eqG (fun x y => x == y) l m = false) := by
      show _ = _
      have e : (x == y) = false := by simpa using hxy
      rw [zy hO, zy ST, e]; rfl
     clear hxy hO ST
     go_wp2_with fail
     go_quiet (fail)
     go_wp2_with fail
     go_ret
     exact ⟨qk (zy NX).symm, (zy hB).trans zv⟩
   ·obtain rfl : j = l.length := by omega
    have NX : Hid (eqG (fun x y => x == y) l m = true) := by
     show _ = _
     rw [zy hO, List.drop_eq_nil_of_le (Nat.le_refl _), List.drop_eq_nil_of_le (by rw [zy HL]; exact Nat.le_refl _)]; rfl
    go_wp2_with fail
    go_ret
    exact ⟨qk (zy NX).symm, zy hB⟩
 ·have bl : ((l.length : Int) != (m.length : Int)) = true := by rw [bne_iff_ne]; omega
  have NX := zx (eqG_len (fun x y => x == y) l m hl)
  clear hl H1 H2
  generalize l.length = nl at *
  generalize m.length = nm at *
  go_enter Tryz.func23, Tryz.ntmps23
  go_wp2_with fail
  go_ret
  exact ⟨qk (zy NX).symm, Below.refl _ _⟩
theorem aw9_bytes : U.zq aw9 := by
 intro z hz
 simp [aw9] at hz
 omega
theorem aw9_all : jJ aw9g = [false, true, false] := by kernel_rfl
theorem aw9_emp : ZW aw9g [] = true := by kernel_rfl
theorem rise_eq : ∀ {l m : List Int}, l.Pairwise (· < ·) → m.Pairwise (· < ·) → (∀ x, x ∈ l ↔ x ∈ m) → l = m := by
 intro l
 induction l with
 | nil =>
  intro m _ _ h
  cases m with
  | nil => rfl
  | cons y m => exact absurd ((h y).2 List.mem_cons_self) (by simp)
 | cons x l ih =>
  intro m hl hm h
  cases m with
  | nil => exact absurd ((h x).1 List.mem_cons_self) (by simp)
  | cons y m =>
   obtain ⟨hx, hl'⟩ := List.pairwise_cons.1 hl
   obtain ⟨hy, hm'⟩ := List.pairwise_cons.1 hm
   have e : x = y := by
    rcases List.mem_cons.1 ((h x).1 List.mem_cons_self) with h1 | h1
    ·exact h1
    ·rcases List.mem_cons.1 ((h y).2 List.mem_cons_self) with h2 | h2
     ·exact h2.symm
     ·have := hx y h2; have := hy x h1; omega
   subst e
   congr 1
   refine ih hl' hm' fun z => ?_
   have hz := h z
   simp only [List.mem_cons] at hz
   constructor
   ·intro h1
    rcases hz.1 (.inr h1) with h2 | h2
    ·subst h2; have := hx z h1; omega
    ·exact h2
   ·intro h1
    rcases hz.2 (.inr h1) with h2 | h2
    ·subst h2; have := hy z h1; omega
    ·exact h2
theorem aw9_lef {L : List Int} (h1 : L.Pairwise (· < ·)) (h2 : ∀ x, x ∈ L ↔ leftP aw9g 0 x) : L = [1, 2] := by
 refine rise_eq h1 (by simp) fun x => (h2 x).trans ?_
 have hn : nuL aw9g.1 = [false, true, false] := by kernel_rfl
 unfold leftP
 rw [hn]
 constructor
 ·rintro ⟨-, i, p, a, e, hp, ha, hx⟩
  obtain rfl : i = 0 := by omega
  have hp' : p = ([[(2, [], 1), (2, [], 2)]], 0, []) := by simpa [aw9g] using hp.symm
  subst hp'
  simp at ha
  subst ha
  have e2 : lefL [false, true, false] [(2, [], 1), (2, [], 2)] = [1, 2] := by decide
  rw [e2] at hx
  exact hx
 ·intro hx
  refine ⟨aw9_may, 0, ([[(2, [], 1), (2, [], 2)]], 0, []), [(2, [], 1), (2, [], 2)], rfl, rfl, by simp, ?_⟩
  have e2 : lefL [false, true, false] [(2, [], 1), (2, [], 2)] = [1, 2] := by decide
  rw [e2]; exact hx
theorem awake9_l (w : World) : Calls Tryz.prog 18 #[] w fun e w' => e = .returned (.bool true) ∧ Below w.heap.size w w' := by
 have CF := zx (fun W => file_any ⟨#[97, 32, 61, 32, 98, 32, 99, 59, 32, 98, 32, 61, 32, 59, 32, 99, 32, 61, 32, 34, 120, 34, 59]⟩ aw9 (St.of aw9_bytes) (by show 23 ≤ 100000000; omega) W)
 go_enter Tryz.func18, Tryz.ntmps18
 go_wp2_with fail
 refine (zy CF _).mono ?_
 clear CF
 rintro e w1 ⟨fr, b1⟩
 obtain ⟨v1, rfl, fv⟩ := file_is fr aw9_file
 have CO := zx (fun W (bW : Below w1.heap.size w1 W) => of_file 4 (w := W) (D := New w w1) (fv.kept (fun g hg => ⟨hg, bW.block g hg.2⟩) (KR.of bW)) (fun g hg => Nat.lt_of_lt_of_le hg.2 bW.size) (fok_yes aw9_fok))
 obtain ⟨aK, cK, aR, cR, rfl, -⟩ := fv
 have el : ((aw9.length : Nat) : Int) = 23 := rfl
 have n0 : aw9f.1.length = 0 := rfl
 have n1 : aw9f.2.length = 3 := rfl
 rw [n0, n1] at CO ⊢
 rw [el]
 clear fr n0 n1 el
 have HB1 := zx b1
 have s1 := b1.size
 clear b1
 go_wp2_with fail
 refine (zy CO _ (Below.new1 _)).mono ?_
 clear CO
 rintro e w2 ⟨or, b2⟩
 obtain ⟨v2, rfl, gv⟩ := of_is or aw9_flat
 have B2 : Below w1.heap.size w1 w2 := zX (Below.new1 _) b2
 have HB2 := zx (zX (zy HB1) B2)
 have gm := grM_of gv (fun a n c l h => ⟨h.2.1, h.2.2.1⟩)
 have CA := zx (fun W (bW : Below w2.heap.size w2 W) => nAll_l v2 aw9g W (gm.later bW))
 have CL := zx (fun W (bW : Below w2.heap.size w2 W) => nLefts_yes v2 aw9g 0 ([[(2, [], 1), (2, [], 2)]], 0, []) W (gm.later bW) aw9_may rfl)
 have CE := zx (fun W (bW : Below w2.heap.size w2 W) => nEmpty_l v2 nilR aw9g [] W (gm.later bW) (SyL.nil _ _))
 rw [aw9_all] at CA
 rw [aw9_emp] at CE
 obtain ⟨a, c, aK2, cK2, rfl, -⟩ := gm
 have m1 : aw9g.1.length = 3 := rfl
 have m0 : aw9g.2.length = 0 := rfl
 rw [m0, m1] at CA CL CE ⊢
 clear or gv b2 B2 m0 m1
 rw [show ((0 : Nat) : Int) = 0 from rfl] at CL
 go_wp2_with fail
 refine (zy CA _ (Below.new1 _)).mono ?_
 clear CA
 rintro e w3 ⟨v3, rfl, hv3, b3⟩
 have hg3 := nkept b3
 have B3 := zx (zX (Below.new1 (w := w2) _) b3)
 have ce3 := ceOwn (enc := Value.bool) hv3
 obtain ⟨a3, c3, rfl, -⟩ := id ce3
 have l3 : ([false, true, false] : List Bool).length = 3 := rfl
 rw [l3] at ce3 ⊢
 have bn3 : Below w3.heap.size w3 (w3.alloc (.cells #[.bool false, .bool true, .bool false] 4)) := Below.new1 _
 have CB := zx (bools_l _ _ [false, true, false] [false, true, false] (w3.alloc (.cells #[.bool false, .bool true, .bool false] 4)) (ce3.later bn3) (ceNew (enc := Value.bool) (l := [false, true, false]) (heap_alloc_new w3 _) (by simp)))
 rw [show eqG (fun x y => x == y) [false, true, false] [false, true, false] = true from rfl, l3] at CB
 clear ce3 hv3 l3 b3
 go_wp2_with fail
 refine (zy CB).mono ?_
 clear CB
 rintro e w4 ⟨rfl, b4⟩
 have hg4 : w4.heap[w2.heap.size]? = some (.cells #[.slice a 3 c, .slice aK2 0 cK2] 32) := ((zX bn3 b4).block _ (Array.getElem?_eq_some_iff.1 hg3).1).trans hg3
 have B4 := zx (zX (zy B3) (zX bn3 b4))
 obtain ⟨y0, y1, -, -⟩ := qQ hg4
 clear hg3 bn3 b4 B3
 go_wp2_with fail
 refine (zy CL _ (zy B4)).mono ?_
 clear CL
 rintro e w5 ⟨v5, L, rfl, hv5, hp5, hm5, b5⟩
 obtain rfl := aw9_lef hp5 hm5
 have ce5 := ceOwn (enc := Value.int .i64) hv5
 obtain ⟨a5, c5, rfl, -⟩ := id ce5
 have l5 : ([1, 2] : List Int).length = 2 := rfl
 rw [l5] at ce5 ⊢
 have hg5 := (b5.block _ (Array.getElem?_eq_some_iff.1 hg4).1).trans hg4
 have B5 := zx (zX (zy B4) b5)
 have bn5 : Below w5.heap.size w5 (w5.alloc (.cells #[.int .i64 1, .int .i64 2] 3)) := Below.new1 _
 have CI := zx (ints_l _ _ [1, 2] [1, 2] (w5.alloc (.cells #[.int .i64 1, .int .i64 2] 3)) (ce5.later bn5) (ceNew (enc := Value.int .i64) (l := [1, 2]) (heap_alloc_new w5 _) (by simp)))
 rw [show eqG (fun x y => x == y) ([1, 2] : List Int) [1, 2] = true from rfl, l5] at CI
 clear ce5 hv5 hp5 hm5 l5 b5 y0 y1 hg4 B4
 go_wp2_with fail
 refine (zy CI).mono ?_
 clear CI
 rintro e w6 ⟨rfl, b6⟩
 have hg6 := ((zX bn5 b6).block _ (Array.getElem?_eq_some_iff.1 hg5).1).trans hg5
 have B6 := zx (zX (zy B5) (zX bn5 b6))
 obtain ⟨y0, y1, -, -⟩ := qQ hg6
 clear hg5 bn5 b6 B5 hg6
 go_wp2_with fail
 refine (zy CE _ (zy B6)).mono ?_
 clear CE
 rintro e w7 ⟨rfl, b7⟩
 go_wp2_with fail
 go_ret
 exact ⟨rfl, zX (zy HB2) (zX (zy B6) b7)⟩
def EncS : List SY → List Value → Prop
 | [], cs => cs = []
 | s :: l, cs => ∃ x k cs', cs = .int .i64 s.1 :: .slice x s.2.1.length k :: .int .i64 s.2.2 :: cs' ∧ EncS l cs'
theorem EncS.len : ∀ {l : List SY} {cs : List Value}, EncS l cs → cs.length = l.length * 3 := by
 intro l
 induction l with
 | nil => intro cs h; have : cs = [] := h; subst this; rfl
 | cons s l ih => intro cs h; obtain ⟨x, k, cs', rfl, h⟩ := h; have := ih h; simp; omega
theorem EncS.one : ∀ {l : List SY} {cs : List Value}, EncS l cs → ∀ u ∈ cs, u.oneCell' = true := by
 intro l
 induction l with
 | nil => intro cs h u hu; have : cs = [] := h; subst this; cases hu
 | cons s l ih =>
  intro cs h u hu
  obtain ⟨x, k, cs', rfl, h⟩ := h
  rcases List.mem_cons.1 hu with rfl | hu
  ·rfl
  rcases List.mem_cons.1 hu with rfl | hu
  ·rfl
  rcases List.mem_cons.1 hu with rfl | hu
  ·rfl
  exact ih h u hu
theorem EncS.append : ∀ {l m : List SY} {cs ds : List Value}, EncS l cs → EncS m ds → EncS (l ++ m) (cs ++ ds) := by
 intro l
 induction l with
 | nil => intro m cs ds h h2; have : cs = [] := h; subst this; exact h2
 | cons s l ih => intro m cs ds h h2; obtain ⟨x, k, cs', rfl, h⟩ := h; exact ⟨x, k, cs' ++ ds, rfl, ih h h2⟩
theorem EncS.at : ∀ {l : List SY} {cs : List Value} {j : Nat} {s : SY}, EncS l cs → l[j]? = some s → ∃ x k, cs[3 * j]? = some (.int .i64 s.1) ∧ cs[3 * j + 1]? = some (.slice x s.2.1.length k) ∧ cs[3 * j + 2]? = some (.int .i64 s.2.2) := by
 intro l
 induction l with
 | nil => intro cs j s _ hj; simp at hj
 | cons y l ih =>
  intro cs j s h hj
  obtain ⟨x, k, cs', rfl, h⟩ := h
  cases j with
  | zero => simp at hj; subst hj; exact ⟨x, k, rfl, rfl, rfl⟩
  | succ j =>
   obtain ⟨x2, k2, h0, h1, h2⟩ := ih h (by simpa using hj)
   refine ⟨x2, k2, ?_, ?_, ?_⟩
   ·rw [show 3 * (j + 1) = 3 * j + 1 + 1 + 1 by omega]; simpa using h0
   ·rw [show 3 * (j + 1) + 1 = 3 * j + 1 + 1 + 1 + 1 by omega]; simpa using h1
   ·rw [show 3 * (j + 1) + 2 = 3 * j + 2 + 1 + 1 + 1 by omega]; simpa using h2
theorem enc_of {w : World} {g : Nat} : ∀ (l : List SY) (off : Nat), (∀ j s, l[j]? = some s → ∃ x k, w.cell? ⟨g, off + 3 * j, none⟩ = some (.int .i64 s.1) ∧ w.cell? ⟨g, off + 3 * j + 1, none⟩ = some (.slice x s.2.1.length k) ∧ w.cell? ⟨g, off + 3 * j + 2, none⟩ = some (.int .i64 s.2.2)) →
  ∃ cs, EncS l cs ∧ ∀ j u, cs[j]? = some u → w.cell? ⟨g, off + j, none⟩ = some u := by
 intro l
 induction l with
 | nil => intro off _; exact ⟨[], rfl, fun j u hu => by simp at hu⟩
 | cons s l ih =>
  intro off h
  obtain ⟨x, k, h0, h1, h2⟩ := h 0 s rfl
  obtain ⟨cs, he, hc⟩ := ih (off + 3) (fun j s' hj => by
   obtain ⟨x, k, a0, a1, a2⟩ := h (j + 1) s' (by simpa using hj)
   rw [show off + 3 * (j + 1) = off + 3 + 3 * j by omega] at a0 a1 a2
   exact ⟨x, k, a0, a1, a2⟩)
  refine ⟨_, ⟨x, k, cs, rfl, he⟩, fun j u hu => ?_⟩
  match j, hu with
  | 0, hu => simp at hu; subst hu; simpa using h0
  | 1, hu => simp at hu; subst hu; simpa using h1
  | 2, hu => simp at hu; subst hu; simpa using h2
  | j + 3, hu =>
   have := hc j u (by simpa using hu)
   rw [show off + 3 + j = off + (j + 3) by omega] at this
   exact this
def SrcS (w : World) (a : Option Addr) (n : Nat) (cs : List Value) : Prop := (a = none ∧ n = 0) ∨ ∃ ad, a = some ad ∧ ∀ (j : Nat) (u : Value), cs[j]? = some u → ad.block < w.heap.size ∧ w.cell? (ad.add j) = some u
theorem SrcS.later {w X : World} {a : Option Addr} {n : Nat} {cs : List Value} (h : SrcS w a n cs) (b : Below w.heap.size w X) : SrcS X a n cs := by
 rcases h with h | ⟨ad, rfl, h⟩
 ·exact .inl h
 ·refine .inr ⟨ad, rfl, fun j u hu => ?_⟩
  obtain ⟨h1, h2⟩ := h j u hu
  have e : (ad.add j).block = ad.block := by unfold Addr.add; split <;> rfl
  exact ⟨Nat.lt_of_lt_of_le h1 b.size, (b.cell (p := ad.add j) (by rw [e]; exact h1)).trans h2⟩
theorem enc_row {w : World} {a : Option Addr} {n c : Nat} {l : List SY} (h : SyM w (.slice a n c) l) : l.length = n ∧ n ≤ c ∧ c ≤ maxLen ∧ ∃ cs, EncS l cs ∧ SrcS w a n cs := by
 obtain ⟨a', c', e, h1, h2, h3⟩ := h
 injection e with e1 e2 e3
 subst e1; subst e2; subst e3
 refine ⟨rfl, h1, h2, ?_⟩
 cases l with
 | nil =>
  refine ⟨[], rfl, ?_⟩
  cases a with
  | none => exact .inl ⟨rfl, rfl⟩
  | some ad => exact .inr ⟨ad, rfl, fun j u hu => by simp at hu⟩
 | cons s l =>
  obtain ⟨g, off, -, -, rfl, hg, -⟩ := h3 0 s rfl
  obtain ⟨cs, he, hc⟩ := enc_of (w := w) (g := g) (s :: l) off (fun j s' hj => by
   obtain ⟨g', off', x, k, e, -, q0, q1, q2, -⟩ := h3 j s' hj
   injection e with e
   injection e with e1 e2
   subst e1; subst e2
   exact ⟨x, k, q0, q1, q2⟩)
  exact ⟨cs, he, .inr ⟨_, rfl, fun j u hu => ⟨hg, by rw [Addr.add_mid]; exact hc j u hu⟩⟩⟩
theorem sym_append {w : World} {base n : Nat} {v : Value} {xs : List Value} (own : w.ownsRow base 64 3 v n xs) (hb : base ≤ w.heap.size) {x : Option Addr} {m c : Nat} {ds : List Value} (hl : ds.length = m * 3) (h1 : ∀ u ∈ ds, u.oneCell' = true) (hx : SrcS w x m ds) (hs : n + m ≤ 100000) :
  ∃ v' w', (Builtin.append_ #[46, 46] 46 #[v, .slice x m c]).run Tryz.prog w = .ok v' w' ∧ w'.ownsRow base 64 3 v' (n + m) (xs ++ ds) ∧ w.grownBy w' v.ownBlock := by
 obtain ⟨ti, hi0, hz0, hz1, hz2⟩ := info_parts sym_info
 rcases hx with ⟨rfl, rfl⟩ | ⟨ad, rfl, hc⟩
 ·have d0 : ds = [] := List.eq_nil_of_length_eq_zero (by omega)
  subst d0
  refine ⟨v, w, ?_, by rw [List.append_nil]; exact own, ⟨rfl, rfl, rfl, Nat.le_refl _, fun _ _ _ => rfl⟩⟩
  rcases id own.2 with ⟨rfl, rfl⟩ | ⟨g, cap, cur, rfl, _, _, hnc, _⟩
  ·simp [Builtin.append_, run_underlying Tryz.underlying46, sizeOf, typeInfo, hi0, Builtin.lenOf, Builtin.firstCells]
  ·simp [Builtin.append_, run_underlying Tryz.underlying46, sizeOf, typeInfo, hi0, Builtin.lenOf, Builtin.firstCells, hnc, storeCells]
 ·obtain ⟨v', w', hr, h2, h3, -, -⟩ := run_append_own_at (P := Tryz.prog) w base 46 46 64 ti _ 3 40 Tryz.underlying46 hi0 hz0 hz1 hz2 rfl (by omega) v n xs own ad m c ds hl (fun j u hu => (hc j u hu).2) h1 (by unfold maxLen; omega) (by omega) hb
  exact ⟨v', w', hr, h2, h3⟩
theorem nul_app (g : GR) (la lb : List SY) : ZW g (la ++ lb) = (ZW g la && ZW g lb) := by
 unfold ZW nulA
 rw [List.all_append]
 cases Yo g.1 <;> simp
theorem syl_nil (w : World) (B : Nat) : SyL w B (.slice none 0 0) [] := ⟨none, 0, rfl, Nat.le_refl _, Nat.zero_le _, fun j s hj => by simp at hj⟩
theorem own_syl {w : World} {base n : Nat} {t : TypeId} {v : Value} {l : List SY} {cs : List Value} (h : w.ownsRow base t 3 v n cs) (hn : l.length = n) (he : EncS l cs) (hf : ∀ s ∈ l, zK s.2.2) : SyL w w.heap.size v l := by
 subst hn
 rcases id h.2 with ⟨rfl, h0⟩ | ⟨g, cap, cur, rfl, hb, hg, hn, hm, hsz, ht⟩
 ·exact ⟨none, 0, by rw [h0], by omega, Nat.zero_le _, fun j s hj => by have := (List.getElem?_eq_some_iff.1 hj).1; omega⟩
 ·refine ⟨_, cap, rfl, hn, hm, fun j s hj => ?_⟩
  obtain ⟨x, k, q0, q1, q2⟩ := he.at hj
  have hjl := (List.getElem?_eq_some_iff.1 hj).1
  have cell : ∀ i u, cs[i]? = some u → i < l.length * 3 → w.cell? ⟨g, i, none⟩ = some u := by
   intro i u hu hi
   rw [cell_of_row w g i cur t (0, 0) hg]
   rw [← ht, List.getElem?_take, if_pos hi] at hu
   simpa using hu
  exact ⟨hf s (List.mem_of_getElem? hj), g, 0, x, _, k, rfl, (Array.getElem?_eq_some_iff.1 hg).1, by rw [Nat.zero_add]; exact cell _ _ q0 (by omega), by rw [Nat.zero_add]; exact cell _ _ q1 (by omega), by rw [Nat.zero_add]; exact cell _ _ q2 (by omega)⟩
theorem nullJoin_walk (v : Value) (g : GR) (va : Value) (la : List SY) (vb : Value) (lb : List SY) (w : World) (h : GrM w v g) (hf : ∀ p ∈ g.1, ∀ l ∈ p.1, ∀ s ∈ l, zK s.2.2)
  (ha : SyM w va la) (hfa : ∀ s ∈ la, zK s.2.2) (hb : SyM w vb lb) (hfb : ∀ s ∈ lb, zK s.2.2) :
  Calls Tryz.prog 7 #[v, va, vb] w fun e w' => e = .returned (.bool true) ∧ Below w.heap.size w w' := by
 have CA := zx (fun W => awake9_l W)
 have CM := zx (fun W (bW : Below w.heap.size w W) => fMayM_l v g W (h.later bW))
 have CE := zx (fun lv l W (bW : Below w.heap.size w W) (hl : SyL W W.heap.size lv l) => nEmpty_l v lv g l W (h.later bW) hl)
 obtain ⟨a, c, aK, cK, rfl, hp, -⟩ := id h
 have CF := zx (fun W (bW : Below w.heap.size w W) => few_l a c g.2.length cK aK g.1 W ((hp.later bW).prl hf))
 obtain ⟨P, K⟩ := g
 simp only at CM CF CE hp hf ⊢
 obtain ⟨aa, ca, rfl, -, -, -⟩ := id ha
 obtain ⟨ab, cb, rfl, -, -, -⟩ := id hb
 obtain ⟨-, ha1, ha2, csa, ea, xa⟩ := enc_row ha
 obtain ⟨-, hb1, hb2, csb, eb, xb⟩ := enc_row hb
 unfold maxLen at ha2 hb2
 have HA := zx ha
 have HB := zx hb
 have HFA := zx hfa
 have HFB := zx hfb
 have EA := zx ea
 have EB := zx eb
 have XA := zx xa
 have XB := zx xb
 have nA : Hid (la.length = la.length) := rfl
 generalize K.length = nK at *
 generalize P.length = nP at *
 clear h hp hf ha hfa hb hfb ea eb xa xb
 go_enter Tryz.func7, Tryz.ntmps7
 go_wp2_with fail
 have G0 := heap_alloc_new w (.cells #[.slice a nP c, .slice aK nK cK] 32)
 refine (zy CA _).mono ?_
 clear CA
 rintro e w1 ⟨rfl, b1⟩
 have G1 := (b1.block _ (Array.getElem?_eq_some_iff.1 G0).1).trans G0
 obtain ⟨y0, y1, -, -⟩ := qQ G1
 have B1 := zx (zX (Below.new1 _) b1)
 clear b1 G0
 go_wp2_with fail
 refine (zy CF _ (zy B1)).mono ?_
 clear CF
 rintro e w2 ⟨⟨r, rfl⟩, b2⟩
 have G2 := (b2.block _ (Array.getElem?_eq_some_iff.1 G1).1).trans G1
 have B2 := zx (zX (zy B1) b2)
 clear b2 G1 B1 y0 y1
 obtain ⟨y0, y1, -, -⟩ := qQ G2
 cases r with
 | false =>
  go_wp2_with fail
  go_ret
  exact ⟨rfl, zy B2⟩
 | true =>
  go_wp2_with fail
  refine (zy CM _ (zy B2)).mono ?_
  rintro e w4 ⟨rfl, b4⟩
  have G4 := (b4.block _ (Array.getElem?_eq_some_iff.1 G2).1).trans G2
  have B4 := zx (zX (zy B2) b4)
  clear b4 G2 B2 y0 y1
  obtain ⟨y0, y1, -, -⟩ := qQ G4
  cases hg : Yo P with
  | false =>
   go_wp2_with fail
   go_ret
   exact ⟨rfl, zy B4⟩
  | true =>
   by_cases h1 : 40 < la.length
   ·have d1 : decide (40 < (la.length : Int)) = true := decide_eq_true (by omega)
    have d2 : decide (40 < la.length) = true := decide_eq_true h1
    generalize la.length = nl at *
    clear h1
    go_wp2_with fail
    go_ret
    exact ⟨rfl, zy B4⟩
   ·have d1 : decide (40 < (la.length : Int)) = false := decide_eq_false (by omega)
    have d2 : decide (40 < la.length) = false := decide_eq_false h1
    by_cases h2 : 40 < lb.length
    ·have d3 : decide (40 < (lb.length : Int)) = true := decide_eq_true (by omega)
     have d4 : decide (40 < lb.length) = true := decide_eq_true h2
     generalize la.length = nl at *
     generalize lb.length = ml at *
     clear h1 h2
     go_wp2_with fail
     go_ret
     exact ⟨rfl, zy B4⟩
    ·have d3 : decide (40 < (lb.length : Int)) = false := decide_eq_false (by omega)
     have d4 : decide (40 < lb.length) = false := decide_eq_false h2
     obtain ⟨v5, w5, hap1, own5, g5⟩ := sym_append (c := ca) (World.ownsRow_nil w4 w4.heap.size 64 3) (Nat.le_refl _) (zy EA).len (zy EA).one ((zy XA).later (zy B4)) (by omega)
     have B5 : Below w4.heap.size w4 w5 := Yx (World.ownsRow_nil w4 w4.heap.size 64 3) (Below.refl _ _) (Nat.le_refl _) g5
     obtain ⟨v6, w6, hap2, own6, g6⟩ := sym_append (c := cb) own5 B5.size (zy EB).len (zy EB).one ((zy XB).later (zX (zy B4) B5)) (by omega)
     have B6 : Below w4.heap.size w4 w6 := Yx own5 B5 B5.size g6
     have BW6 := zx (zX (zy B4) B6)
     have SALL := zx (own_syl (l := la ++ lb) own6 (by rw [List.length_append]; omega) (by rw [List.nil_append]; exact (zy EA).append (zy EB)) (by intro s hs; rcases List.mem_append.1 hs with h | h; exact zy HFA s h; exact zy HFB s h))
     have CEall := zx (fun W (bW : Below w6.heap.size w6 W) => zy CE v6 (la ++ lb) W (zX (zy BW6) bW) ((zy SALL).kept fun g hg => ⟨Nat.lt_of_lt_of_le hg bW.size, bW.block g hg⟩))
     have CEa := zx (fun W (bW : Below w6.heap.size w6 W) => zy CE (.slice aa la.length ca) la W (zX (zy BW6) bW) (((zy HA).later (zX (zy BW6) bW)).syl (zy HFA)))
     have CEb := zx (fun W (bW : Below w6.heap.size w6 W) => zy CE (.slice ab lb.length cb) lb W (zX (zy BW6) bW) (((zy HB).later (zX (zy BW6) bW)).syl (zy HFB)))
     have CEn := zx (fun W (bW : Below w6.heap.size w6 W) => zy CE (.slice none 0 0) [] W (zX (zy BW6) bW) (syl_nil _ _))
     rw [nul_app] at CEall
     rw [show ZW (P, K) [] = true by unfold ZW nulA; simp [hg]] at CEn
     have lw : w.heap.size < w4.heap.size := zZ y0
     have KS := zx (fun W (bW : Below w6.heap.size w6 W) => (⟨((zX B6 bW).cell (p := ⟨w.heap.size, 0, none⟩) lw).trans y0, ((zX B6 bW).cell (p := ⟨w.heap.size, 1, none⟩) lw).trans y1⟩ : W.cell? ⟨w.heap.size, 0, none⟩ = some (.slice a nP c) ∧ W.cell? ⟨w.heap.size, 1, none⟩ = some (.slice aK nK cK)))
     generalize ZW (P, K) la = na at *
     generalize ZW (P, K) lb = nb at *
     clear CE CM SALL EA EB XA XB HA HB HFA HFB own5 own6 g5 g6 B5 B6 h1 h2 G4 ha1 ha2 hb1 hb2
     generalize la.length = nl at *
     generalize lb.length = ml at *
     go_wp2_with (at_builtin; first | refine app_run rfl _ _ 46 46 rfl rfl _ _ rfl rfl hap1 ?_ | refine app_run rfl _ _ 46 46 rfl rfl _ _ rfl rfl hap2 ?_)
     clear hap1 hap2
     have z0 := (zy KS _ (Below.refl _ _)).1
     have z1 := (zy KS _ (Below.refl _ _)).2
     clear y0 y1
     cases na with
     | false =>
      rw [Bool.false_and] at CEall
      have Z0 : ∀ d, (w6.drewN d).cell? ⟨w.heap.size, 0, none⟩ = some (.slice a nP c) := fun d => z0
      have Z1 : ∀ d, (w6.drewN d).cell? ⟨w.heap.size, 1, none⟩ = some (.slice aK nK cK) := fun d => z1
      go_wp2_with fail
      first
       | (go_region_with ((go_at_call 27; first
         | (have bc := bw2; first | (refine (zy CEn _ bc).mono ?_; rintro e x3 ⟨rfl, c3⟩; have bw3 := zX bc c3) | (refine (zy CEn _ (zX bc zv)).mono ?_; rintro e x3 ⟨rfl, c3⟩; have bw3 := zX (zX bc zv) c3))
         | (have bc := bw1; first | (refine (zy CEa _ bc).mono ?_; rintro e x2 ⟨rfl, c2⟩; have bw2 := zX bc c2; have r0 := (zy KS _ bw2).1; have r1 := (zy KS _ bw2).2) | (refine (zy CEa _ (zX bc zv)).mono ?_; rintro e x2 ⟨rfl, c2⟩; have bw2 := zX (zX bc zv) c2; have r0 := (zy KS _ bw2).1; have r1 := (zy KS _ bw2).2))
         | (refine (zy CEall _ zv).mono ?_; rintro e x1 ⟨rfl, c1⟩; have bw1 := zX zv c1; have q0 := (zy KS _ bw1).1; have q1 := (zy KS _ bw1).2))))
       | fail
      all_goals (go_wp2_with fail)
      all_goals go_ret
      all_goals first
       | exact ⟨rfl, zX (zy BW6) bw3⟩
       | exact ⟨rfl, zX (zy BW6) (zX bw3 zv)⟩
     | true =>
      rw [Bool.true_and] at CEall
      cases nb with
      | false =>
       go_wp2_with fail
       go_region_held3 (fun w' => w'.cell? ⟨w.heap.size, 0, none⟩ = some (.slice a nP c) ∧ w'.cell? ⟨w.heap.size, 1, none⟩ = some (.slice aK nK cK))
        (first | exact zy KS _ bw4 | exact zy KS _ bw3 | exact zy KS _ bw2 | exact zy KS _ bw1 | exact ⟨z0, z1⟩)
        ((go_at_call 27; first
         | (have bc := bw3; first | (refine (zy CEn _ bc).mono ?_; rintro e x4 ⟨rfl, c4⟩; have bw4 := zX bc c4) | (refine (zy CEn _ (zX bc (zv (k := 1)))).mono ?_; rintro e x4 ⟨rfl, c4⟩; have bw4 := zX (zX bc (zv (k := 1))) c4))
         | (have bc := bw2; first | (refine (zy CEb _ bc).mono ?_; rintro e x3 ⟨rfl, c3⟩; have bw3 := zX bc c3) | (refine (zy CEb _ (zX bc (zv (k := 1)))).mono ?_; rintro e x3 ⟨rfl, c3⟩; have bw3 := zX (zX bc (zv (k := 1))) c3))
         | (have bc := bw1; first | (refine (zy CEa _ bc).mono ?_; rintro e x2 ⟨rfl, c2⟩; have bw2 := zX bc c2) | (refine (zy CEa _ (zX bc (zv (k := 1)))).mono ?_; rintro e x2 ⟨rfl, c2⟩; have bw2 := zX (zX bc (zv (k := 1))) c2))
         | (refine (zy CEall _ (zv (k := 1))).mono ?_; rintro e x1 ⟨rfl, c1⟩; have bw1 := zX (zv (w := w6) (k := 1)) c1)))
       all_goals (go_wp2_with fail)
       all_goals go_ret
       all_goals first
        | exact ⟨rfl, zX (zy BW6) bw4⟩
        | exact ⟨rfl, zX (zy BW6) (zX bw4 (zv (k := 1)))⟩
      | true =>
       go_wp2_with fail
       go_region_held3 (fun w' => w'.cell? ⟨w.heap.size, 0, none⟩ = some (.slice a nP c) ∧ w'.cell? ⟨w.heap.size, 1, none⟩ = some (.slice aK nK cK))
        (first | exact zy KS _ bw4 | exact zy KS _ bw3 | exact zy KS _ bw2 | exact zy KS _ bw1 | exact ⟨z0, z1⟩)
        ((go_at_call 27; first
         | (have bc := bw3; first | (refine (zy CEn _ bc).mono ?_; rintro e x4 ⟨rfl, c4⟩; have bw4 := zX bc c4) | (refine (zy CEn _ (zX bc (zv (k := 1)))).mono ?_; rintro e x4 ⟨rfl, c4⟩; have bw4 := zX (zX bc (zv (k := 1))) c4))
         | (have bc := bw2; first | (refine (zy CEb _ bc).mono ?_; rintro e x3 ⟨rfl, c3⟩; have bw3 := zX bc c3) | (refine (zy CEb _ (zX bc (zv (k := 1)))).mono ?_; rintro e x3 ⟨rfl, c3⟩; have bw3 := zX (zX bc (zv (k := 1))) c3))
         | (have bc := bw1; first | (refine (zy CEa _ bc).mono ?_; rintro e x2 ⟨rfl, c2⟩; have bw2 := zX bc c2) | (refine (zy CEa _ (zX bc (zv (k := 1)))).mono ?_; rintro e x2 ⟨rfl, c2⟩; have bw2 := zX (zX bc (zv (k := 1))) c2))
         | (refine (zy CEall _ (zv (k := 1))).mono ?_; rintro e x1 ⟨rfl, c1⟩; have bw1 := zX (zv (w := w6) (k := 1)) c1)))
       all_goals (go_wp2_with fail)
       all_goals go_ret
       all_goals first
        | exact ⟨rfl, zX (zy BW6) bw4⟩
        | exact ⟨rfl, zX (zy BW6) (zX bw4 (zv (k := 1)))⟩
end Go.Proofs.YtnfgobgflcmepaaGreatDoor.Nl
