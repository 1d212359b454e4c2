/- Parts of the proof of NullLefts that stand ahead of it (36: NlLf, NlSame, NlAwake, NlLLefts). -/
import Derived.Test.YtamefbpdnblbdaaGreatDoorNullLeftsM34
import Derived.Test.YtamefbpdnblbdaaGreatDoorNullLeftsM26
import Derived.Test.YtamefbpdnblbdaaGreatDoorNullLeftsM33
namespace Go.Proofs.YtamefbpdnblbdaaGreatDoor.Nl
open Go.RowKit Go.Shelf Go.Proofs.YtamefbpdnblbdaaGreatDoor.T Go.Proofs.YtamefbpdnblbdaaGreatDoor.R Go.Proofs.YtamefbpdnblbdaaGreatDoor.F
set_option linter.unusedVariables false
set_option linter.unusedSimpArgs false

def lefL (is : List Bool) : List SY → List Int
  | [] => []
  | s :: l => if s.1 = 2 then s.2.2 :: (if nulS is s = true then lefL is l else []) else []
theorem lef_is {P : List PRD} {E : List Int} (hE : ∀ x, x ∈ E ↔ isN P x) : ∀ l : List SY, lefE E l = lefL (nuL P) l := by
  intro l
  induction l with
  | nil => rfl
  | cons s l ih =>
    unfold lefE lefL
    by_cases h2 : s.1 = 2
    · rw [if_pos h2, if_pos h2, ih]
      by_cases hn : s.2.2 ∈ E
      · rw [if_pos hn, if_pos (nulS_nu.2 ⟨h2, (hE _).1 hn⟩)]
      · rw [if_neg hn, if_neg (fun c => hn ((hE _).2 (nulS_nu.1 c).2))]
    · rw [if_neg h2, if_neg h2]
def leftP (g : GR) (n x : Int) : Prop := gramB g.1 = true ∧ ∃ (i : Nat) (p : PRD) (a : List SY), n = (i : Int) ∧ g.1[i]? = some p ∧ a ∈ p.1 ∧ x ∈ lefL (nuL g.1) a
def LfR (w : World) (g : GR) (n : Int) (e : Ending) (w' : World) : Prop := ∃ v L, e = .returned v ∧ InV w' w.heap.size v L ∧ List.Pairwise (· < ·) L ∧ (∀ x, x ∈ L ↔ leftP g n x) ∧ Below w.heap.size w w'
theorem InV.nil (w : World) (base : Nat) : InV w base (.slice none 0 0) [] := World.ownsRow_nil w base _ _
theorem LfR.none {w w' : World} {g : GR} {n : Int} (h : ∀ x, ¬ leftP g n x) (b : Below w.heap.size w w') : LfR w g n (.returned (.slice none 0 0)) w' :=
  ⟨_, [], rfl, InV.nil _ _, List.Pairwise.nil, fun x => ⟨fun c => (by cases c), fun c => absurd c (h x)⟩, b⟩
structure LfI (w : World) (b bl k1 : Nat) (E pre0 : List Int) (v : Value) (l : List SY) (ds : List Deferred) (pre : List Int) (W : World) : Prop where
  emp : SetV W b E
  set : SetV W bl (pre0 ++ pre)
  sy : SyL W w.heap.size v l
  bx : W.heap[bl + 1]? = some (boxS bl)
  c1 : W.heap[k1]? = some (boxS b)
  c2 : W.heap[k1 + 1]? = some (boxY v)
  bel : Below w.heap.size w W
  mrk : Marks (bl + 2) W ds
  ml : ∀ D, markD D ∈ ds → D < k1
theorem LfI.below {w W W' : World} {b bl k1 : Nat} {E pre0 pre : List Int} {v : Value} {l : List SY} {ds : List Deferred} (h : LfI w b bl k1 E pre0 v l ds pre W) (k : Below (k1 + 2) W W') (hb : b < bl) (hbl : bl + 2 ≤ k1) (hw : w.heap.size ≤ bl) : LfI w b bl k1 E pre0 v l ds pre W' :=
  ⟨h.emp.later k (by omega), h.set.later k (by omega), h.sy.later (k.mono (by omega)), (k.block _ (by omega)).trans h.bx, (k.block _ (by omega)).trans h.c1, (k.block _ (by omega)).trans h.c2, h.bel.trans (k.mono (by omega)),
    h.mrk.keep ds fun D hD hW => (k.block D (by have := h.ml D hD; omega)).trans hW, h.ml⟩
theorem LfI.put {w W W' : World} {b bl k1 : Nat} {E pre0 pre : List Int} {v : Value} {l : List SY} {ds : List Deferred} {x : Int} (h : LfI w b bl k1 E pre0 v l ds pre W) (hs : SetV W' bl ((pre0 ++ pre) ++ [x])) (k : Bo bl W W') (hb : b < bl) (hbl : bl + 2 ≤ k1) (hw : w.heap.size ≤ bl) (hW : k1 + 2 ≤ W.heap.size) : LfI w b bl k1 E pre0 v l ds (pre ++ [x]) W' := by
  have kb : ∀ g, g < W.heap.size → g ≠ bl → W'.heap[g]? = W.heap[g]? := fun g h1 h2 => k.block g h1 (fun e => h2 (by injection e))
  have kB : Below w.heap.size W W' := ⟨k.os, k.tape, k.output, k.size, fun i hi => kb i (by omega) (by omega)⟩
  exact ⟨h.emp.keep (kb _ (by omega) (by omega)), by rw [← List.append_assoc]; exact hs, h.sy.later kB, (kb _ (by omega) (by omega)).trans h.bx, (kb _ (by omega) (by omega)).trans h.c1, (kb _ (by omega) (by omega)).trans h.c2, h.bel.trans kB,
    h.mrk.keep ds fun D hD hX => (kb D (by have := h.ml D hD; omega) (by have := (h.mrk.lt ds D hD).1; omega)).trans hX, h.ml⟩
theorem InV.off {W X : World} {base base' : Nat} {v : Value} {L : List Int} (h : InV W base v L) (hb : base' ≤ base) (k : ∀ (k : Nat) (o : Obj), W.heap[k]? = some o → (∀ x, o ≠ Obj.deferred x) → X.heap[k]? = some o) : InV X base' v L := by
  refine ⟨h.1, ?_⟩
  rcases h.2 with hn | ⟨g, cap, cur, e, h1, hg, rest⟩
  · exact .inl hn
  · exact .inr ⟨g, cap, cur, e, Nat.le_trans hb h1, k g _ hg (fun x c => by cases c), rest⟩
theorem box_cell {W : World} {k b : Nat} (h : W.heap[k]? = some (boxS b)) : W.cell? ⟨k, 0, none⟩ = some (.map (some b)) := by simp [World.cell?, h]
def lfT (g0 : Value) (i : Int) (wz b bz : Nat) (sP : Value) (nP : Int) (pp sA : Value) (nA k : Int) (u8 u9 u36 u37 u38 u39 u40 u41 u42 u43 u44 u45 u46 : Value) : Array Value :=
  #[g0, .int .i64 i, .pointer (some ⟨wz, 0, none⟩), undef, .slice none 0 0, .map (some b), .pointer (some ⟨bz + 1, 0, none⟩), undef, u8, u9, g0, .bool true, .bool false, .bool false, .int .i64 i, .bool false, .bool false, .bool false, .int .i64 i,
    .pointer (some ⟨wz, 0, none⟩), sP, .int .i64 nP, .bool false, .bool false, .pointer (some ⟨wz, 0, none⟩), sP, .map (some b), .map (some bz), .pointer (some ⟨wz, 0, none⟩), sP, .int .i64 i, pp, pp, sA, .int .i64 nA, .int .i64 k, u36, u37, u38, u39, u40, u41, u42, u43, u44, u45, u46, undef, undef, undef]
def LfL (w w2 : World) (b : Nat) (E : List Int) (A : List (List SY)) (g0 : Value) (i : Int) (sP : Value) (nP : Int) (pp sA : Value) (a' : Act) (W' : World) : Prop :=
  ∃ (k : Nat) (ki : Int) (ds : List Deferred) (pre : List Int) (u8 u9 u36 u37 u38 u39 u40 u41 u42 u43 u44 u45 u46 : Value),
    ki = (k : Int) ∧ a' = { tmps := lfT g0 i w.heap.size b w2.heap.size sP nP pp sA (A.length : Nat) ki u8 u9 u36 u37 u38 u39 u40 u41 u42 u43 u44 u45 u46, defers := ds } ∧ k ≤ A.length ∧ Hid (pre = (A.take k).flatMap (lefE E)) ∧ pre.length ≤ 40 * k ∧
    Hid (SetV W' b E) ∧ Hid (SetV W' w2.heap.size pre) ∧ Hid (W'.heap[w2.heap.size + 1]? = some (boxS w2.heap.size)) ∧ Hid (Below w.heap.size w W') ∧ w2.heap.size + 2 ≤ W'.heap.size ∧ Hid (Marks (w2.heap.size + 2) W' ds)
attribute [local go_sem] Oper.semAt_some
set_option maxRecDepth 20000 in
set_option maxHeartbeats 8000000 in
theorem nLefts_yes (v : Value) (g : GR) (i : Nat) (p : PRD) (w : World) (h : GrM w v g) (hg : gramB g.1 = true) (hi : g.1[i]? = some p) :
    Calls Tryz.prog 19 #[v, .int .i64 (i : Int)] w fun e w' => LfR w g (i : Int) e w' := by
  have CM := hideR (fun W (bW : Below w.heap.size w W) => fMayM_l v g W (h.later bW))
  obtain ⟨a, c, aK, cK, rfl, hp, -⟩ := id h
  obtain ⟨P, K⟩ := g
  simp only at CM hp hg hi ⊢
  rw [hg] at CM
  obtain ⟨-, h60, h8, h40, ok, hf⟩ := gram_ok hg
  have hmm := @run_makeMap Tryz.prog
  have hx : ∀ args w, (callFunc 69 args).run Tryz.prog w = .ok (.enter 69 args) w := enters_of Tryz.func69 (by kernel_rfl) rfl
  have hpr := hp.prl hf
  have HP := hideR hpr
  have CE := hideR (fun W (bW : Below w.heap.size w W) => emptyOf_l w.heap.size _ P W ((unhideR HP).later bW) bW.size h60 h8 ok)
  have hiL := (List.getElem?_eq_some_iff.1 hi).1
  have hmem := List.mem_of_getElem? hi
  have h8p := h8 p hmem
  have H40 := hideR (h40 p hmem)
  have HFT := hideR (hf p hmem)
  have HLP : Hid (∀ x, leftP (P, K) (i : Int) x ↔ ∃ a ∈ p.1, x ∈ lefL (nuL P) a) := by
    intro x
    constructor
    · rintro ⟨-, j, q, al, e, hq, ha, hx⟩
      obtain rfl : i = j := by omega
      simp only at hq
      rw [hi] at hq
      injection hq with hq
      subst hq
      exact ⟨al, ha, hx⟩
    · rintro ⟨al, ha, hx⟩
      exact ⟨hg, i, p, al, rfl, hi, ha, hx⟩
  obtain ⟨a0, c0, e0, hc1, hc2, h3⟩ := hpr
  injection e0 with e1 e2 e3
  subst e1; subst e3
  obtain ⟨gp, off, u, m, x, n', kk, rfl, hgp, q0, q1, q2, hA⟩ := h3 i p hi
  obtain ⟨aA, cA, rfl, hA1, hA2, -⟩ := id hA
  have HA := hideR hA
  have Q0 := fun W (bW : Below w.heap.size w W) => (bW.cell (p := ⟨gp, off + 3 * i, none⟩) hgp).trans q0
  unfold maxLen at hc2 hA2
  clear h hp hg h60 h8 h40 ok hf h3 e2 hA hi hmem HP
  have bn : decide ((i : Int) < 0) = false := decide_eq_false (by omega)
  have bm : decide ((P.length : Int) ≤ (i : Int)) = false := decide_eq_false (by omega)
  have i3 : i * 3 = 3 * i := by omega
  generalize K.length = nK at *
  refine (callsIn_wide (n := 8)).1 ?_
  refine callsIn_of_wp_marks Tryz.func19 rfl trivial ?_ rfl
  simp only [Tryz.ntmps19, List.size_toArray, List.length_cons, List.length_nil, Nat.reduceAdd, Nat.reduceSub, Array.replicate_succ, Array.replicate_zero, List.push_toArray, List.append_toArray, List.nil_append, List.cons_append]
  gi_wp2_with fail
  refine ⟨trivial, ?_⟩
  refine (callsIn_wide.2 (unhideR CM _ (Below.new1 _))).mono ?_
  rintro e w1 ⟨rfl, b1⟩
  clear CM
  have hk1 := nkept b1
  obtain ⟨y0, y1, -, -⟩ := ncells2 hk1
  have B1 := hideR (nthen (Below.new1 _) b1)
  clear b1
  gi_wp2_with fail
  refine ⟨trivial, ?_⟩
  refine (callsIn_wide.2 (unhideR CE _ (unhideR B1))).mono ?_
  rintro e w2 ⟨b, E, rfl, hS, hE, hwb, b2⟩
  clear CE y0 y1
  have hk2 := (b2.block _ (Array.getElem?_eq_some_iff.1 hk1).1).trans hk1
  have hlt2 := (Array.getElem?_eq_some_iff.1 hk2).1
  have bz : Below w2.heap.size w2 ((w2.alloc (.map #[] 0)).alloc (boxS w2.heap.size)) := (Below.new1 _).alloc (by simp) _
  have hk3 := (bz.block _ hlt2).trans hk2
  obtain ⟨y0, y1, -, -⟩ := ncells2 hk3
  have B2 := hideR (nthen (unhideR B1) b2)
  have B3 := hideR (nthen (unhideR B2) bz)
  have s2 := (unhideR B2).size
  have qq := Q0 _ (unhideR B3)
  have HS := hideR hS
  have HE := hideR hE
  clear hS hE b2 hk1 hk2 hk3 B1 Q0 q0 q1 q2
  gi_wp2_with fail
  have hbl := (unhideR HS).lt
  have Z1 : Hid (SetV ((w2.alloc (.map #[] 0)).alloc (boxS w2.heap.size)) b E) := (unhideR HS).later bz hbl
  have Z2 : Hid (SetV ((w2.alloc (.map #[] 0)).alloc (boxS w2.heap.size)) w2.heap.size []) := (SetV.new w2).keep ((Below.new1 _).block _ (by simp))
  have Z3 : Hid (((w2.alloc (.map #[] 0)).alloc (boxS w2.heap.size)).heap[w2.heap.size + 1]? = some (boxS w2.heap.size)) := by
    have := heap_alloc_new (w2.alloc (.map #[] 0)) (boxS w2.heap.size)
    rwa [World.size_alloc] at this
  have sz : ((w2.alloc (.map #[] 0)).alloc (boxS w2.heap.size)).heap.size = w2.heap.size + 2 := by simp
  clear bz HS B2 qq y0 y1 hmm
  generalize ((w2.alloc (.map #[] 0)).alloc (boxS w2.heap.size)) = Z at *
  refine wpIn_loop (LfL w w2 b E p.1 (.agg #[.slice (some ⟨gp, off, none⟩) P.length c, .slice aK nK cK]) (i : Int) (.slice (some ⟨gp, off, none⟩) P.length c) (P.length : Nat) (.pointer (some ⟨gp, off + 3 * i, none⟩)) (.slice aA p.1.length cA))
    (fun a' _ => p.1.length - (intOf (a'.tmps.getD 35 undef)).toNat) ?_ ?_
  · exact ⟨0, 0, [], [], undef, undef, undef, undef, undef, undef, undef, undef, undef, undef, undef, undef, undef, rfl, rfl, Nat.zero_le _, rfl, Nat.zero_le _, Z1, Z2, Z3, B3, by omega, trivial⟩
  · rintro a' W' ⟨k, ki, ds, pre, u8, u9, u36, u37, u38, u39, u40, u41, u42, u43, u44, u45, u46, rfl, rfl, hk, hO, hlen, hE1, hL, hbx, hB, hsz, hM⟩
    clear Z1 Z2 Z3 B3 sz
    unfold lfT
    by_cases hlt : k < p.1.length
    · obtain ⟨a', c', e, -, -, h3⟩ := (unhideR HA).later (unhideR hB)
      injection e with e1 e2 e3
      subst e1; subst e3
      have hkl : p.1[k]? = some p.1[k] := by simp [hlt]
      obtain ⟨g2, off2, u2, rfl, hg2, r0, hsy⟩ := h3 k p.1[k] hkl
      have hl40 := unhideR H40 _ (List.getElem_mem hlt)
      have hfl := hideR (unhideR HFT _ (List.getElem_mem hlt))
      have ST : Hid ((p.1.take (k + 1)).flatMap (lefE E) = (p.1.take k).flatMap (lefE E) ++ lefE E p.1[k]) := by
        show _ = _
        rw [List.take_succ_eq_append_getElem hlt, List.flatMap_append]; simp
      obtain ⟨a5, c5, rfl, -⟩ := id hsy
      have HSY := hideR hsy
      have CL := hideR (lefts_l b a5 (p.1[k]).length c5 W')
      have hll := lef_len (E := E) p.1[k]
      clear h3 hkl e2 hsy
      generalize p.1[k] = l at *
      gi_wp2_with fail
      refine ⟨trivial, ?_⟩
      refine (callsIn_wide.2 (unhideR CL)).mono ?_
      rintro e w3 ⟨rfl, hw3⟩
      subst hw3
      clear CL
      have sz3 : ((W'.alloc (boxS b)).alloc (boxY (.slice a5 l.length c5))).heap.size = W'.heap.size + 2 := by simp
      have I0 : LfI w b w2.heap.size W'.heap.size E pre (.slice a5 l.length c5) l ds [] ((W'.alloc (boxS b)).alloc (boxY (.slice a5 l.length c5))) := by
        have bb : Below W'.heap.size W' ((W'.alloc (boxS b)).alloc (boxY (.slice a5 l.length c5))) := (Below.new1 _).alloc (by simp) _
        refine ⟨(unhideR hE1).later bb (unhideR hE1).lt, by rw [List.append_nil]; exact (unhideR hL).later bb (unhideR hL).lt, (unhideR HSY).later (bb.mono (by omega)), (bb.block _ (by omega)).trans (unhideR hbx), ?_, ?_, nthen (unhideR hB) bb, (unhideR hM).later bb, fun D hD => (Array.getElem?_eq_some_iff.1 ((unhideR hM).lt ds D hD).2).1⟩
        · exact ((Below.new1 _).block _ (by simp)).trans (heap_alloc_new W' _)
        · have := heap_alloc_new (W'.alloc (boxS b)) (boxY (.slice a5 l.length c5))
          rwa [World.size_alloc] at this
      clear hE1 hL hbx hB hM HSY
      gi_wp2_with fail
      generalize hZ3 : ((W'.alloc (boxS b)).alloc (boxY (.slice a5 l.length c5))) = Z3 at *
      clear hZ3
      have HI0 := hideR I0
      clear I0
      refine rangeMore (n := 8) (by omega) (gf := 69) (cs := #[.pointer (some ⟨W'.heap.size + 1, 0, none⟩), .pointer (some ⟨W'.heap.size, 0, none⟩)]) rfl hx w2.heap.size (by rw [sz3]; omega) (LfI w b w2.heap.size W'.heap.size E pre (.slice a5 l.length c5) l ds)
        (fun q x => ∃ rest, q ++ x :: rest = lefE E l) (fun xs => xs = lefE E l) (fun q X X' hi k => hi.below (by rw [sz3] at k; exact k) hbl (by omega) s2) (unhideR HI0)
        (fun x => { tmps := lfT (.agg #[.slice (some ⟨gp, off, none⟩) P.length c, .slice aK nK cK]) (i : Int) w.heap.size b w2.heap.size (.slice (some ⟨gp, off, none⟩) P.length c) (P.length : Nat) (.pointer (some ⟨gp, off + 3 * i, none⟩)) (.slice (some ⟨g2, off2, none⟩) p.1.length cA) (p.1.length : Nat) (k : Int) (.slice a5 l.length c5) (.int .i64 x) (.bool true) (.pointer (some ⟨g2, off2 + k, none⟩)) (.slice a5 l.length c5) (.map (some b)) (.slice a5 l.length c5) (leftsF W'.heap.size (W'.heap.size + 1)) (.int .i64 x) u43 u44 u45 u46, defers := [] })
        ?assign ?body ?iter ?done
      case assign =>
        intro l' x X K' hK
        unfold lfT at hK
        gi_wp2
        exact hK
      case body =>
        rintro l' q x X hI ⟨rest, hx1⟩ hX
        rw [sz3] at hX
        have hql : q.length < l.length := by
          rw [← hx1, List.length_append, List.length_cons] at hll
          omega
        have hxl : x ∈ lefE E l := by rw [← hx1]; simp
        obtain ⟨sx, hsx, -, rfl⟩ := lef_sub hxl
        have CP := hideR (nput_l w2.heap.size (pre ++ q) sx.2.2 X hI.set (unhideR hfl sx hsx) (by rw [List.length_append]; omega))
        have q0 : X.cell? ⟨w2.heap.size + 1, 0, none⟩ = some (.map (some w2.heap.size)) := by simp [World.cell?, hI.bx]
        have HI := hideR hI
        clear hI hsx hxl hx1
        generalize sx.2.2 = z at *
        unfold lfT
        gi_wp2_with fail
        refine ⟨trivial, ?_⟩
        refine (CallsIn.inRound l' (callsIn_wide.2 (unhideR CP))).mono ?_
        rintro e X2 ⟨rfl, hs2, hg2⟩
        gi_wp2_with fail
        exact ⟨hg2, (unhideR HI).put hs2 hg2 hbl (by omega) s2 hX⟩
      case iter =>
        intro lr X J hs hb' hJI hJb hY h0
        rw [sz3] at hs
        refine (lefts_iter 7 (by omega) lr W'.heap.size (W'.heap.size + 1) b w.heap.size w2.heap.size E (.slice a5 l.length c5) l X J (fun q X1 hj => ?_) hJb (fun q x X1 h1 h2 h3 => hY q x X1 h1 h2 h3) (by omega) h0).mono ?_
        · have := hJI _ _ hj
          exact ⟨this.emp, this.sy, this.c1, this.c2⟩
        · rintro e X' ⟨hv, hj⟩
          exact ⟨hv, _, rfl, hj⟩
      case done =>
        intro xs X hE' hI hD'
        subst hE'
        have MK : Hid (Marks (w2.heap.size + 2) X (markD Z3.heap.size :: ds)) := ⟨Z3.heap.size, rfl, by rw [sz3]; omega, hD', fun D' hD2 e => by have := hI.ml D' hD2; rw [sz3] at e; omega, hI.mrk⟩
        have hXs : w2.heap.size + 2 ≤ X.heap.size := by have := (Array.getElem?_eq_some_iff.1 hI.c1).1; omega
        have HI := hideR hI
        have NX : Hid (pre ++ lefE E l = (p.1.take (k + 1)).flatMap (lefE E)) := by
          show _ = _
          rw [unhideR ST, unhideR hO]
        clear hI hD' HI0
        gi_wp2_with fail
        refine ⟨⟨k + 1, (k : Int) + 1, markD Z3.heap.size :: ds, pre ++ lefE E l, _, _, _, _, _, _, _, _, _, _, _, _, _, by omega, rfl, by omega, NX, by rw [List.length_append]; omega, (unhideR HI).emp, (unhideR HI).set, (unhideR HI).bx, (unhideR HI).bel, hXs, MK⟩, ?_⟩
        simp [intOf]; omega
    · obtain rfl : k = p.1.length := by omega
      have q0 : W'.cell? ⟨w2.heap.size + 1, 0, none⟩ = some (.map (some w2.heap.size)) := by
        have := unhideR hbx
        simp [World.cell?, this]
      have CK := hideR (keysN_l w2.heap.size W')
      have bb : Below W'.heap.size W' (W'.alloc (boxS w2.heap.size)) := Below.new1 _
      have CS := hideR (sortedN_l w2.heap.size W'.heap.size pre (W'.alloc (boxS w2.heap.size)) ((unhideR hL).later bb (unhideR hL).lt) (box_cell (heap_alloc_new W' (boxS w2.heap.size))) (by omega))
      have B4 := hideR (nthen (unhideR hB) bb)
      have M4 := hideR ((unhideR hM).later bb)
      have MEM : Hid (∀ x, x ∈ pre ↔ leftP (P, K) (i : Int) x) := by
        intro x
        rw [unhideR HLP x, unhideR hO, List.take_of_length_le (Nat.le_refl _), List.mem_flatMap]
        constructor
        · rintro ⟨al, ha, hx⟩
          exact ⟨al, ha, by rw [← lef_is (unhideR HE)]; exact hx⟩
        · rintro ⟨al, ha, hx⟩
          exact ⟨al, ha, by rw [lef_is (unhideR HE)]; exact hx⟩
      have s4 : w2.heap.size + 2 ≤ (W'.alloc (boxS w2.heap.size)).heap.size := by simp; omega
      clear hE1 hL hbx hB hM hO HA H40 HFT HLP HE hx
      gi_wp2_with fail
      refine ⟨trivial, ?_⟩
      refine (callsIn_wide.2 (unhideR CK)).mono ?_
      rintro e w5 ⟨rfl, hw5⟩
      subst hw5
      gi_wp2_with fail
      refine ⟨trivial, ?_⟩
      refine (callsIn_wide.2 (unhideR CS)).mono ?_
      rintro e w6 ⟨v6, L, rfl, hp6, hm6, hv6, b6⟩
      have M6 := (unhideR M4).later b6
      have B6 := nthen (unhideR B4) b6
      have s6 := b6.size
      have H6 := hideR (And.intro hp6 (And.intro hm6 hv6))
      clear CK CS hp6 hm6 hv6 b6
      gi_wp2_with fail
      refine Marks.leave _ _ M6 (by omega) fun X bX kX => ?_
      obtain ⟨hp6, hm6, hv6⟩ := unhideR H6
      refine ⟨_, results_tmp rfl _ _ _, v6, L, rfl, hv6.off (by omega) kX, hp6, fun x => (hm6 x).trans (unhideR MEM x), B6.trans (bX.mono (by omega))⟩
end Go.Proofs.YtamefbpdnblbdaaGreatDoor.Nl

namespace Go.Proofs.YtamefbpdnblbdaaGreatDoor.Nl
open Go.RowKit Go.Shelf Go.Proofs.YtamefbpdnblbdaaGreatDoor.T Go.Proofs.YtamefbpdnblbdaaGreatDoor.R Go.Proofs.YtamefbpdnblbdaaGreatDoor.F
set_option linter.unusedVariables false
set_option linter.unusedSimpArgs false

def eqG {α : Type} (e : α → α → Bool) : List α → List α → Bool
  | [], [] => true
  | x :: l, y :: m => e x y && eqG e l m
  | _, _ => false
theorem eqG_drop {α : Type} (e : α → α → Bool) {l m : List α} {k : Nat} (h : k < l.length) (h2 : k < m.length) : eqG e (l.drop k) (m.drop k) = (e l[k] m[k] && eqG e (l.drop (k + 1)) (m.drop (k + 1))) := by
  rw [List.drop_eq_getElem_cons h, List.drop_eq_getElem_cons h2]; rfl
theorem eqG_len {α : Type} (e : α → α → Bool) : ∀ (l m : List α), l.length ≠ m.length → eqG e l m = false := by
  intro l
  induction l with
  | nil => intro m h; cases m with
    | nil => simp at h
    | cons => rfl
  | cons x l ih =>
    intro m h
    cases m with
    | nil => rfl
    | cons y m => unfold eqG; rw [ih m (by simpa using h)]; simp
def CeV {α : Type} (enc : α → Value) (w : World) (v : Value) (l : List α) : Prop := ∃ a c, v = .slice a l.length c ∧ l.length ≤ c ∧ c ≤ maxLen ∧ ∀ j b, l[j]? = some b → ∃ g off, a = some ⟨g, off, none⟩ ∧ g < w.heap.size ∧ w.cell? ⟨g, off + j, none⟩ = some (enc b)
theorem CeV.later {α : Type} {enc : α → Value} {w X : World} {v : Value} {l : List α} (h : CeV enc w v l) (k : Below w.heap.size w X) : CeV enc X v l := by
  obtain ⟨a, c, e, h1, h2, h3⟩ := h
  refine ⟨a, c, e, h1, h2, fun j b hj => ?_⟩
  obtain ⟨g, off, ha, hg, hc⟩ := h3 j b hj
  exact ⟨g, off, ha, Nat.lt_of_lt_of_le hg k.size, (k.cell (p := ⟨g, off + j, none⟩) hg).trans hc⟩
theorem ceOwn {α : Type} {enc : α → Value} {w : World} {base : Nat} {t : TypeId} {v : Value} {l : List α} (h : w.ownsRow base t 1 v l.length (l.map enc)) : CeV enc w v l := by
  rcases id h.2 with ⟨rfl, h0⟩ | ⟨g, cap, cur, rfl, hb, hg, hn, hm, hsz, ht⟩
  · refine ⟨none, 0, by rw [h0], by omega, Nat.zero_le _, fun j b hj => ?_⟩
    have := (List.getElem?_eq_some_iff.1 hj).1; omega
  · refine ⟨_, cap, rfl, hn, hm, fun j b hj => ⟨g, 0, rfl, (Array.getElem?_eq_some_iff.1 hg).1, ?_⟩⟩
    have := World.ownsRow.cells h (g := g) rfl j (enc b) (by rw [List.getElem?_map, hj]; rfl)
    rwa [Addr.add_lit] at this
theorem ceNew {α : Type} {enc : α → Value} {w : World} {g : Nat} {t : TypeId} {l : List α} (h : w.heap[g]? = some (.cells (l.map enc).toArray t)) (hl : l.length ≤ 1000) : CeV enc w (.slice (some ⟨g, 0, none⟩) l.length l.length) l :=
  ⟨_, l.length, rfl, Nat.le_refl _, by unfold maxLen; omega, fun j b hj => ⟨g, 0, rfl, (Array.getElem?_eq_some_iff.1 h).1, by simp [World.cell?, h, hj]⟩⟩
set_option maxRecDepth 20000 in
set_option maxHeartbeats 2000000 in
theorem bools_l (v1 v2 : Value) (l m : List Bool) (w : World) (h1 : CeV Value.bool w v1 l) (h2 : CeV Value.bool w v2 m) :
    Calls Tryz.prog 15 #[v1, v2] w fun e w' => e = .returned (.bool (eqG (fun x y => x == y) l m)) ∧ Below w.heap.size w w' := by
  obtain ⟨a, c, rfl, hc1, hc2, h3⟩ := h1
  obtain ⟨a', c', rfl, hd1, hd2, h3'⟩ := h2
  unfold maxLen at hc2 hd2
  have H1 := hideR h3
  have H2 := hideR h3'
  clear h3 h3'
  by_cases hl : l.length = m.length
  · have bl : ((l.length : Int) != (m.length : Int)) = false := by simp [hl]
    have HL := hideR hl
    clear hl
    go_enter Tryz.func15, Tryz.ntmps15
    go_wp2_with fail
    go_loopw [5] (fun i wr => ∃ (j : Nat), j ≤ l.length ∧ i = .int .i64 (j : Int) ∧ Hid (eqG (fun x y => x == y) l m = eqG (fun x y => x == y) (l.drop j) (m.drop j)) ∧ Hid (Below w.heap.size w wr)) (fun i _ => l.length - (intOf i).toNat)
    case atStart => exact ⟨0, Nat.zero_le _, rfl, rfl, Below.refl _ _⟩
    case round =>
      obtain ⟨j, hj, rfl, hO, hB⟩ := hrel
      by_cases hlt : j < l.length
      · have hlt2 : j < m.length := by rw [← unhideR HL]; exact hlt
        obtain ⟨g, off, rfl, hg, q0⟩ := unhideR H1 j l[j] (by simp [hlt])
        obtain ⟨g', off', rfl, hg', q1⟩ := unhideR H2 j m[j] (by simp [hlt2])
        have ST := hideR (eqG_drop (fun x y => x == y) hlt hlt2)
        have Q0 : ∀ d, (wr.drewN d).cell? ⟨g, off + j, none⟩ = some (Value.bool l[j]) := fun d => ((unhideR hB).cell (p := ⟨g, off + j, none⟩) hg).trans q0
        have Q1 : ∀ d, (wr.drewN d).cell? ⟨g', off' + j, none⟩ = some (Value.bool m[j]) := fun d => ((unhideR hB).cell (p := ⟨g', off' + j, none⟩) hg').trans q1
        have R0 := Q0 0
        have R1 := Q1 0
        simp only [World.drewN_zero] at R0 R1
        clear q0 q1
        generalize l[j] = x at *
        generalize m[j] = y at *
        by_cases hxy : x = y
        · have bn : (x != y) = false := by simp [hxy]
          have be : (x == y) = true := by simp [hxy]
          have NX : Hid (eqG (fun x y => x == y) l m = eqG (fun x y => x == y) (l.drop (j + 1)) (m.drop (j + 1))) := by
            show _ = _
            rw [unhideR hO, unhideR ST, hxy]; simp
          clear hxy hO ST
          go_wp2_with fail
          go_quiet (fail)
          go_wp2_with fail
          exact ⟨⟨j + 1, by omega, by simp, NX, (unhideR hB).trans draws_b⟩, by simp [intOf]; omega⟩
        · have bn : (x != y) = true := by simpa using hxy
          have be : (x == y) = false := by simpa using hxy
          have NX : Hid (eqG (fun x y => x == y) l m = false) := by
            show _ = _
            have e : (x == y) = false := by simpa using hxy
            rw [unhideR hO, unhideR ST, e]; rfl
          clear hxy hO ST
          go_wp2_with fail
          go_quiet (fail)
          go_wp2_with fail
          go_ret
          exact ⟨ret_bool (unhideR NX).symm, (unhideR hB).trans draws_b⟩
      · obtain rfl : j = l.length := by omega
        have NX : Hid (eqG (fun x y => x == y) l m = true) := by
          show _ = _
          rw [unhideR hO, List.drop_eq_nil_of_le (Nat.le_refl _), List.drop_eq_nil_of_le (by rw [unhideR HL]; exact Nat.le_refl _)]; rfl
        go_wp2_with fail
        go_ret
        exact ⟨ret_bool (unhideR NX).symm, unhideR hB⟩
  · have bl : ((l.length : Int) != (m.length : Int)) = true := by rw [bne_iff_ne]; omega
    have NX := hideR (eqG_len (fun x y => x == y) l m hl)
    clear hl H1 H2
    generalize l.length = nl at *
    generalize m.length = nm at *
    go_enter Tryz.func15, Tryz.ntmps15
    go_wp2_with fail
    go_ret
    exact ⟨ret_bool (unhideR NX).symm, Below.refl _ _⟩
set_option maxRecDepth 20000 in
set_option maxHeartbeats 2000000 in
theorem ints_l (v1 v2 : Value) (l m : List Int) (w : World) (h1 : CeV (Value.int .i64) w v1 l) (h2 : CeV (Value.int .i64) w v2 m) :
    Calls Tryz.prog 18 #[v1, v2] w fun e w' => e = .returned (.bool (eqG (fun x y => x == y) l m)) ∧ Below w.heap.size w w' := by
  obtain ⟨a, c, rfl, hc1, hc2, h3⟩ := h1
  obtain ⟨a', c', rfl, hd1, hd2, h3'⟩ := h2
  unfold maxLen at hc2 hd2
  have H1 := hideR h3
  have H2 := hideR h3'
  clear h3 h3'
  by_cases hl : l.length = m.length
  · have bl : ((l.length : Int) != (m.length : Int)) = false := by simp [hl]
    have HL := hideR hl
    clear hl
    go_enter Tryz.func18, Tryz.ntmps18
    go_wp2_with fail
    go_loopw [5] (fun i wr => ∃ (j : Nat), j ≤ l.length ∧ i = .int .i64 (j : Int) ∧ Hid (eqG (fun x y => x == y) l m = eqG (fun x y => x == y) (l.drop j) (m.drop j)) ∧ Hid (Below w.heap.size w wr)) (fun i _ => l.length - (intOf i).toNat)
    case atStart => exact ⟨0, Nat.zero_le _, rfl, rfl, Below.refl _ _⟩
    case round =>
      obtain ⟨j, hj, rfl, hO, hB⟩ := hrel
      by_cases hlt : j < l.length
      · have hlt2 : j < m.length := by rw [← unhideR HL]; exact hlt
        obtain ⟨g, off, rfl, hg, q0⟩ := unhideR H1 j l[j] (by simp [hlt])
        obtain ⟨g', off', rfl, hg', q1⟩ := unhideR H2 j m[j] (by simp [hlt2])
        have ST := hideR (eqG_drop (fun x y => x == y) hlt hlt2)
        have Q0 : ∀ d, (wr.drewN d).cell? ⟨g, off + j, none⟩ = some ((Value.int .i64) l[j]) := fun d => ((unhideR hB).cell (p := ⟨g, off + j, none⟩) hg).trans q0
        have Q1 : ∀ d, (wr.drewN d).cell? ⟨g', off' + j, none⟩ = some ((Value.int .i64) m[j]) := fun d => ((unhideR hB).cell (p := ⟨g', off' + j, none⟩) hg').trans q1
        have R0 := Q0 0
        have R1 := Q1 0
        simp only [World.drewN_zero] at R0 R1
        clear q0 q1
        generalize l[j] = x at *
        generalize m[j] = y at *
        by_cases hxy : x = y
        · have bn : (x != y) = false := by simp [hxy]
          have be : (x == y) = true := by simp [hxy]
          have NX : Hid (eqG (fun x y => x == y) l m = eqG (fun x y => x == y) (l.drop (j + 1)) (m.drop (j + 1))) := by
            show _ = _
            rw [unhideR hO, unhideR ST, hxy]; simp
          clear hxy hO ST
          go_wp2_with fail
          go_quiet (fail)
          go_wp2_with fail
          exact ⟨⟨j + 1, by omega, by simp, NX, (unhideR hB).trans draws_b⟩, by simp [intOf]; omega⟩
        · have bn : (x != y) = true := by simpa using hxy
          have be : (x == y) = false := by simpa using hxy
          have NX : Hid (eqG (fun x y => x == y) l m = false) := by
            show _ = _
            have e : (x == y) = false := by simpa using hxy
            rw [unhideR hO, unhideR ST, e]; rfl
          clear hxy hO ST
          go_wp2_with fail
          go_quiet (fail)
          go_wp2_with fail
          go_ret
          exact ⟨ret_bool (unhideR NX).symm, (unhideR hB).trans draws_b⟩
      · obtain rfl : j = l.length := by omega
        have NX : Hid (eqG (fun x y => x == y) l m = true) := by
          show _ = _
          rw [unhideR hO, List.drop_eq_nil_of_le (Nat.le_refl _), List.drop_eq_nil_of_le (by rw [unhideR HL]; exact Nat.le_refl _)]; rfl
        go_wp2_with fail
        go_ret
        exact ⟨ret_bool (unhideR NX).symm, unhideR hB⟩
  · have bl : ((l.length : Int) != (m.length : Int)) = true := by rw [bne_iff_ne]; omega
    have NX := hideR (eqG_len (fun x y => x == y) l m hl)
    clear hl H1 H2
    generalize l.length = nl at *
    generalize m.length = nm at *
    go_enter Tryz.func18, Tryz.ntmps18
    go_wp2_with fail
    go_ret
    exact ⟨ret_bool (unhideR NX).symm, Below.refl _ _⟩
end Go.Proofs.YtamefbpdnblbdaaGreatDoor.Nl

namespace Go.Proofs.YtamefbpdnblbdaaGreatDoor.Nl
open Go.RowKit Go.Shelf Go.Proofs.YtamefbpdnblbdaaGreatDoor.T Go.Proofs.YtamefbpdnblbdaaGreatDoor.R Go.Proofs.YtamefbpdnblbdaaGreatDoor.F
set_option linter.unusedVariables false
set_option linter.unusedSimpArgs false

theorem aw9_bytes : U.isBytes aw9 := by
  intro z hz
  simp [aw9] at hz
  omega
theorem aw9_all : allL aw9g = [false, true, false] := by kernel_rfl
theorem aw9_emp : emptyB aw9g [] = true := by kernel_rfl
theorem rise_eq : ∀ {l m : List Int}, l.Pairwise (· < ·) → m.Pairwise (· < ·) → (∀ x, x ∈ l ↔ x ∈ m) → l = m := by
  intro l
  induction l with
  | nil =>
    intro m _ _ h
    cases m with
    | nil => rfl
    | cons y m => exact absurd ((h y).2 List.mem_cons_self) (by simp)
  | cons x l ih =>
    intro m hl hm h
    cases m with
    | nil => exact absurd ((h x).1 List.mem_cons_self) (by simp)
    | cons y m =>
      obtain ⟨hx, hl'⟩ := List.pairwise_cons.1 hl
      obtain ⟨hy, hm'⟩ := List.pairwise_cons.1 hm
      have e : x = y := by
        rcases List.mem_cons.1 ((h x).1 List.mem_cons_self) with h1 | h1
        · exact h1
        · rcases List.mem_cons.1 ((h y).2 List.mem_cons_self) with h2 | h2
          · exact h2.symm
          · have := hx y h2; have := hy x h1; omega
      subst e
      congr 1
      refine ih hl' hm' fun z => ?_
      have hz := h z
      simp only [List.mem_cons] at hz
      constructor
      · intro h1
        rcases hz.1 (.inr h1) with h2 | h2
        · subst h2; have := hx z h1; omega
        · exact h2
      · intro h1
        rcases hz.2 (.inr h1) with h2 | h2
        · subst h2; have := hy z h1; omega
        · exact h2
theorem aw9_lef {L : List Int} (h1 : L.Pairwise (· < ·)) (h2 : ∀ x, x ∈ L ↔ leftP aw9g 0 x) : L = [1, 2] := by
  refine rise_eq h1 (by simp) fun x => (h2 x).trans ?_
  have hn : nuL aw9g.1 = [false, true, false] := by kernel_rfl
  unfold leftP
  rw [hn]
  constructor
  · rintro ⟨-, i, p, a, e, hp, ha, hx⟩
    obtain rfl : i = 0 := by omega
    have hp' : p = ([[(2, [], 1), (2, [], 2)]], 0, []) := by simpa [aw9g] using hp.symm
    subst hp'
    simp at ha
    subst ha
    have e2 : lefL [false, true, false] [(2, [], 1), (2, [], 2)] = [1, 2] := by decide
    rw [e2] at hx
    exact hx
  · intro hx
    refine ⟨aw9_may, 0, ([[(2, [], 1), (2, [], 2)]], 0, []), [(2, [], 1), (2, [], 2)], rfl, rfl, by simp, ?_⟩
    have e2 : lefL [false, true, false] [(2, [], 1), (2, [], 2)] = [1, 2] := by decide
    rw [e2]; exact hx
set_option maxRecDepth 20000 in
set_option maxHeartbeats 8000000 in
theorem awake9_l (w : World) : Calls Tryz.prog 13 #[] w fun e w' => e = .returned (.bool true) ∧ Below w.heap.size w w' := by
  have CF := hideR (fun W => file_any ⟨#[97, 32, 61, 32, 98, 32, 99, 59, 32, 98, 32, 61, 32, 59, 32, 99, 32, 61, 32, 34, 120, 34, 59]⟩ aw9 (St.of aw9_bytes) (by show 23 ≤ 100000000; omega) W)
  go_enter Tryz.func13, Tryz.ntmps13
  go_wp2_with fail
  refine (unhideR CF _).mono ?_
  clear CF
  rintro e w1 ⟨fr, b1⟩
  obtain ⟨v1, rfl, fv⟩ := file_is fr aw9_file
  have CO := hideR (fun W (bW : Below w1.heap.size w1 W) => of_file 4 (w := W) (D := New w w1) (fv.kept (fun g hg => ⟨hg, bW.block g hg.2⟩) (KR.of bW)) (fun g hg => Nat.lt_of_lt_of_le hg.2 bW.size) (fok_yes aw9_fok))
  obtain ⟨aK, cK, aR, cR, rfl, -⟩ := fv
  have el : ((aw9.length : Nat) : Int) = 23 := rfl
  have n0 : aw9f.1.length = 0 := rfl
  have n1 : aw9f.2.length = 3 := rfl
  rw [n0, n1] at CO ⊢
  rw [el]
  clear fr n0 n1 el
  have HB1 := hideR b1
  have s1 := b1.size
  clear b1
  go_wp2_with fail
  refine (unhideR CO _ (Below.new1 _)).mono ?_
  clear CO
  rintro e w2 ⟨or, b2⟩
  obtain ⟨v2, rfl, gv⟩ := of_is or aw9_flat
  have B2 : Below w1.heap.size w1 w2 := nthen (Below.new1 _) b2
  have HB2 := hideR (nthen (unhideR HB1) B2)
  have gm := grM_of gv (fun a n c l h => ⟨h.2.1, h.2.2.1⟩)
  have CA := hideR (fun W (bW : Below w2.heap.size w2 W) => nAll_l v2 aw9g W (gm.later bW))
  have CL := hideR (fun W (bW : Below w2.heap.size w2 W) => nLefts_yes v2 aw9g 0 ([[(2, [], 1), (2, [], 2)]], 0, []) W (gm.later bW) aw9_may rfl)
  have CE := hideR (fun W (bW : Below w2.heap.size w2 W) => nEmpty_l v2 nilR aw9g [] W (gm.later bW) (SyL.nil _ _))
  rw [aw9_all] at CA
  rw [aw9_emp] at CE
  obtain ⟨a, c, aK2, cK2, rfl, -⟩ := gm
  have m1 : aw9g.1.length = 3 := rfl
  have m0 : aw9g.2.length = 0 := rfl
  rw [m0, m1] at CA CL CE ⊢
  clear or gv b2 B2 m0 m1
  rw [show ((0 : Nat) : Int) = 0 from rfl] at CL
  go_wp2_with fail
  refine (unhideR CA _ (Below.new1 _)).mono ?_
  clear CA
  rintro e w3 ⟨v3, rfl, hv3, b3⟩
  have hg3 := nkept b3
  have B3 := hideR (nthen (Below.new1 (w := w2) _) b3)
  have ce3 := ceOwn (enc := Value.bool) hv3
  obtain ⟨a3, c3, rfl, -⟩ := id ce3
  have l3 : ([false, true, false] : List Bool).length = 3 := rfl
  rw [l3] at ce3 ⊢
  have bn3 : Below w3.heap.size w3 (w3.alloc (.cells #[.bool false, .bool true, .bool false] 4)) := Below.new1 _
  have CB := hideR (bools_l _ _ [false, true, false] [false, true, false] (w3.alloc (.cells #[.bool false, .bool true, .bool false] 4)) (ce3.later bn3) (ceNew (enc := Value.bool) (l := [false, true, false]) (heap_alloc_new w3 _) (by simp)))
  rw [show eqG (fun x y => x == y) [false, true, false] [false, true, false] = true from rfl, l3] at CB
  clear ce3 hv3 l3 b3
  go_wp2_with fail
  refine (unhideR CB).mono ?_
  clear CB
  rintro e w4 ⟨rfl, b4⟩
  have hg4 : w4.heap[w2.heap.size]? = some (.cells #[.slice a 3 c, .slice aK2 0 cK2] 32) := ((nthen bn3 b4).block _ (Array.getElem?_eq_some_iff.1 hg3).1).trans hg3
  have B4 := hideR (nthen (unhideR B3) (nthen bn3 b4))
  obtain ⟨y0, y1, -, -⟩ := ncells2 hg4
  clear hg3 bn3 b4 B3
  go_wp2_with fail
  refine (unhideR CL _ (unhideR B4)).mono ?_
  clear CL
  rintro e w5 ⟨v5, L, rfl, hv5, hp5, hm5, b5⟩
  obtain rfl := aw9_lef hp5 hm5
  have ce5 := ceOwn (enc := Value.int .i64) hv5
  obtain ⟨a5, c5, rfl, -⟩ := id ce5
  have l5 : ([1, 2] : List Int).length = 2 := rfl
  rw [l5] at ce5 ⊢
  have hg5 := (b5.block _ (Array.getElem?_eq_some_iff.1 hg4).1).trans hg4
  have B5 := hideR (nthen (unhideR B4) b5)
  have bn5 : Below w5.heap.size w5 (w5.alloc (.cells #[.int .i64 1, .int .i64 2] 3)) := Below.new1 _
  have CI := hideR (ints_l _ _ [1, 2] [1, 2] (w5.alloc (.cells #[.int .i64 1, .int .i64 2] 3)) (ce5.later bn5) (ceNew (enc := Value.int .i64) (l := [1, 2]) (heap_alloc_new w5 _) (by simp)))
  rw [show eqG (fun x y => x == y) ([1, 2] : List Int) [1, 2] = true from rfl, l5] at CI
  clear ce5 hv5 hp5 hm5 l5 b5 y0 y1 hg4 B4
  go_wp2_with fail
  refine (unhideR CI).mono ?_
  clear CI
  rintro e w6 ⟨rfl, b6⟩
  have hg6 := ((nthen bn5 b6).block _ (Array.getElem?_eq_some_iff.1 hg5).1).trans hg5
  have B6 := hideR (nthen (unhideR B5) (nthen bn5 b6))
  obtain ⟨y0, y1, -, -⟩ := ncells2 hg6
  clear hg5 bn5 b6 B5 hg6
  go_wp2_with fail
  refine (unhideR CE _ (unhideR B6)).mono ?_
  clear CE
  rintro e w7 ⟨rfl, b7⟩
  go_wp2_with fail
  go_ret
  exact ⟨rfl, nthen (unhideR HB2) (nthen (unhideR B6) b7)⟩
end Go.Proofs.YtamefbpdnblbdaaGreatDoor.Nl

namespace Go.Proofs.YtamefbpdnblbdaaGreatDoor.Nl
open Go.RowKit Go.Shelf Go.Proofs.YtamefbpdnblbdaaGreatDoor.T Go.Proofs.YtamefbpdnblbdaaGreatDoor.R Go.Proofs.YtamefbpdnblbdaaGreatDoor.F
set_option linter.unusedVariables false
set_option linter.unusedSimpArgs false

def isS (x : Int) (s : SY) : Bool := s.1 == 2 && s.2.2 == x
def isA (x : Int) (l : List SY) : Bool := l.any (isS x)
theorem any_take {α : Type} (f : α → Bool) {l : List α} {k : Nat} (h : k < l.length) : (l.take (k + 1)).any f = ((l.take k).any f || f l[k]) := by
  rw [List.take_succ_eq_append_getElem h, List.any_append]; simp
theorem lef_isA {is : List Bool} : ∀ {l : List SY} {x : Int}, x ∈ lefL is l → isA x l = true := by
  intro l
  induction l with
  | nil => intro x h; cases h
  | cons s l ih =>
    intro x h
    unfold lefL at h
    split at h
    · rename_i h2
      rcases List.mem_cons.1 h with h | h
      · unfold isA; rw [List.any_cons]; unfold isS; simp [h2, h]
      · split at h
        · have := ih h
          unfold isA at this ⊢
          rw [List.any_cons, this]; simp
        · cases h
    · cases h
structure LfF (w : World) (kg : Nat) (gp off i nP c nK cK : Nat) (aK aA : Option Addr) (cA : Nat) (A : List (List SY)) (aL : Option Addr) (cL : Nat) (L : List Int) : Prop where
  bx : w.cell? ⟨kg, 0, none⟩ = some (.slice (some ⟨gp, off, none⟩) nP c)
  ps : w.cell? ⟨gp, off + 3 * i, none⟩ = some (.slice aA A.length cA)
  al : AltM w (.slice aA A.length cA) A
  le : CeV (Value.int .i64) w (.slice aL L.length cL) L
theorem LfF.later {w X : World} {kg gp off i nP c nK cK : Nat} {aK aA : Option Addr} {cA : Nat} {A : List (List SY)} {aL : Option Addr} {cL : Nat} {L : List Int} (h : LfF w kg gp off i nP c nK cK aK aA cA A aL cL L) (k : Below w.heap.size w X) : LfF X kg gp off i nP c nK cK aK aA cA A aL cL L :=
  ⟨(k.cell (p := ⟨kg, 0, none⟩) (block_lt' h.bx)).trans h.bx, (k.cell (p := ⟨gp, off + 3 * i, none⟩) (block_lt' h.ps)).trans h.ps, h.al.later k, h.le.later k⟩
theorem AltM.get {w : World} {a : Option Addr} {n c : Nat} {A : List (List SY)} (h : AltM w (.slice a n c) A) {k : Nat} {l : List SY} (hk : A[k]? = some l) : ∃ g off x cc, a = some ⟨g, off, none⟩ ∧ g < w.heap.size ∧ w.cell? ⟨g, off + k, none⟩ = some (.slice x l.length cc) ∧ SyM w (.slice x l.length cc) l ∧ l.length ≤ cc ∧ cc ≤ maxLen := by
  obtain ⟨a', c', e, -, -, h3⟩ := h
  injection e with e1 e2 e3
  subst e1
  obtain ⟨g, off, u, ha, hg, q0, hs⟩ := h3 k l hk
  obtain ⟨x, cc, rfl, h1, h2, -⟩ := id hs
  exact ⟨g, off, x, cc, ha, hg, q0, hs, h1, h2⟩
theorem SyM.get {w : World} {a : Option Addr} {n c : Nat} {l : List SY} (h : SyM w (.slice a n c) l) {j : Nat} {s : SY} (hj : l[j]? = some s) : ∃ g off, a = some ⟨g, off, none⟩ ∧ g < w.heap.size ∧ w.cell? ⟨g, off + 3 * j, none⟩ = some (.int .i64 s.1) ∧ w.cell? ⟨g, off + 3 * j + 2, none⟩ = some (.int .i64 s.2.2) := by
  obtain ⟨a', c', e, -, -, h3⟩ := h
  injection e with e1 e2 e3
  subst e1
  obtain ⟨g, off, x, k, ha, hg, q0, q1, q2, -⟩ := h3 j s hj
  exact ⟨g, off, ha, hg, q0, q2⟩
theorem CeV.get {α : Type} {enc : α → Value} {w : World} {a : Option Addr} {n c : Nat} {l : List α} (h : CeV enc w (.slice a n c) l) {j : Nat} {x : α} (hj : l[j]? = some x) : ∃ g off, a = some ⟨g, off, none⟩ ∧ g < w.heap.size ∧ w.cell? ⟨g, off + j, none⟩ = some (enc x) := by
  obtain ⟨a', c', e, -, -, h3⟩ := h
  injection e with e1 e2 e3
  subst e1
  exact h3 j x hj
set_option maxRecDepth 20000 in
set_option maxHeartbeats 16000000 in
theorem nullLefts_walk (v : Value) (g : GR) (n : Int) (w : World) (h : GrM w v g) (hf : ∀ p ∈ g.1, ∀ l ∈ p.1, ∀ s ∈ l, fits s.2.2) :
    Calls Tryz.prog 7 #[v, .int .i64 n] w fun e w' => e = .returned (.bool true) ∧ Below w.heap.size w w' := by
  have CA := hideR (fun W => awake9_l W)
  have CM := hideR (fun W (bW : Below w.heap.size w W) => fMayM_l v g W (h.later bW))
  obtain ⟨a, c, aK, cK, rfl, hp, -⟩ := id h
  have CF := hideR (fun W (bW : Below w.heap.size w W) => few_l a c g.2.length cK aK g.1 W ((hp.later bW).prl hf))
  obtain ⟨P, K⟩ := g
  simp only at CM CF hp hf ⊢
  obtain ⟨a0, c0, e0, hc1, hc2, h3⟩ := id hp
  injection e0 with e1 e2 e3
  subst e1; subst e3
  unfold maxLen at hc2
  have CL := hideR (fun (i : Nat) (p : PRD) (hg : P[i]? = some p) (hb : gramB P = true) W (bW : Below w.heap.size w W) => nLefts_yes _ (P, K) i p W (h.later bW) hb hg)
  have H3 := hideR h3
  simp only at CL
  generalize K.length = nK at *
  clear h hp h3 e2 hf
  go_enter Tryz.func7, Tryz.ntmps7
  go_wp2_with fail
  have G0 := heap_alloc_new w (.cells #[.slice a P.length c, .slice aK nK cK] 32)
  refine (unhideR CA _).mono ?_
  clear CA
  rintro e w1 ⟨rfl, b1⟩
  have G1 := (b1.block _ (Array.getElem?_eq_some_iff.1 G0).1).trans G0
  obtain ⟨y0, y1, -, -⟩ := ncells2 G1
  have B1 := hideR (nthen (Below.new1 _) b1)
  clear b1 G0
  go_wp2_with fail
  refine (unhideR CF _ (unhideR B1)).mono ?_
  clear CF
  rintro e w2 ⟨⟨r, rfl⟩, b2⟩
  have G2 := (b2.block _ (Array.getElem?_eq_some_iff.1 G1).1).trans G1
  have B2 := hideR (nthen (unhideR B1) b2)
  clear b2 G1 B1 y0 y1
  obtain ⟨y0, y1, -, -⟩ := ncells2 G2
  cases r with
  | false =>
    go_wp2_with fail
    go_ret
    exact ⟨rfl, unhideR B2⟩
  | true =>
    go_wp2_with fail
    refine (unhideR CM _ (unhideR B2)).mono ?_
    clear CM
    rintro e w3 ⟨rfl, b3⟩
    have G3 := (b3.block _ (Array.getElem?_eq_some_iff.1 G2).1).trans G2
    have B3 := hideR (nthen (unhideR B2) b3)
    clear b3 G2 B2 y0 y1
    obtain ⟨y0, y1, -, -⟩ := ncells2 G3
    cases hg : gramB P with
    | false =>
      go_wp2_with fail
      go_ret
      exact ⟨rfl, unhideR B3⟩
    | true =>
      by_cases h0 : n < 0
      · have bn : decide (n < 0) = true := decide_eq_true h0
        clear h0
        go_wp2_with fail
        go_ret
        exact ⟨rfl, unhideR B3⟩
      · obtain ⟨i, rfl⟩ := Int.eq_ofNat_of_zero_le (show 0 ≤ n by omega)
        have bn : decide ((i : Int) < 0) = false := decide_eq_false h0
        clear h0
        by_cases hn : P.length ≤ i
        · have bm : decide ((P.length : Int) ≤ (i : Int)) = true := decide_eq_true (by omega)
          have bm2 : decide (P.length ≤ i) = true := decide_eq_true hn
          clear hn
          go_wp2_with fail
          go_ret
          exact ⟨rfl, unhideR B3⟩
        · have bm : decide ((P.length : Int) ≤ (i : Int)) = false := decide_eq_false (by omega)
          have bm2 : decide (P.length ≤ i) = false := decide_eq_false hn
          obtain ⟨p, hip⟩ : ∃ p, P[i]? = some p := ⟨P[i], by simp⟩
          have CL2 := hideR (unhideR CL i p hip hg w3 (unhideR B3))
          obtain ⟨gp, off, u, u2, rfl, hgp, q0, q1, q2, hA, -⟩ := unhideR H3 i p hip
          have MEM : Hid (∀ L : List Int, (∀ x, x ∈ L ↔ leftP (P, K) (i : Int) x) → (∀ x ∈ L, p.1.any (isA x) = true) ∧ ∀ al ∈ p.1, ∀ s t, al = s :: t → s.1 = 2 → s.2.2 ∈ L) := by
            intro L hL
            constructor
            · intro x hx
              obtain ⟨-, j, q, al, e, hq, ha, hxl⟩ := (hL x).1 hx
              obtain rfl : i = j := by omega
              simp only at hq
              rw [hip] at hq
              injection hq with hq
              subst hq
              exact List.any_eq_true.2 ⟨al, ha, lef_isA hxl⟩
            · intro al ha s t e h2
              refine (hL _).2 ⟨hg, i, p, al, rfl, hip, ha, ?_⟩
              rw [e]
              unfold lefL
              rw [if_pos h2]
              exact List.mem_cons_self
          have hiL : i < P.length := by omega
          clear CL H3 hip hn
          obtain ⟨aA, cA, rfl, hA1, hA2, -⟩ := id hA
          unfold maxLen at hA2
          have i3 : i * 3 = 3 * i := by omega
          go_wp2_with fail
          refine (unhideR CL2).mono ?_
          clear CL2
          rintro e w5 ⟨vL, L, rfl, hv, hp5, hm5, b5⟩
          have ce := ceOwn (enc := Value.int .i64) hv
          obtain ⟨aL, cL, rfl, hL1, hL2, -⟩ := id ce
          unfold maxLen at hL2
          obtain ⟨M1, M2⟩ := unhideR MEM L hm5
          have HM1 := hideR M1
          have HM2 := hideR M2
          have HPW := hideR hp5
          have HCE := hideR ce
          have B5 := nthen (unhideR B3) b5
          have G5 := (b5.block _ (Array.getElem?_eq_some_iff.1 G3).1).trans G3
          obtain ⟨Fbx, -, -, -⟩ := ncells2 G5
          have Fps : w5.cell? ⟨gp, off + 3 * i, none⟩ = some (.slice aA p.1.length cA) := (B5.cell (p := ⟨gp, off + 3 * i, none⟩) hgp).trans q0
          have HAL := hideR (hA.later B5)
          have HB5 := hideR B5
          clear MEM M1 M2 hp5 hm5 ce hv b5 B5 G3 G5 B3 y0 y1 q0 q1 q2 hA
          go_wp2_with fail
          go_loopw [8] (fun i wr => ∃ (q : Nat), q ≤ L.length ∧ i = .int .i64 (q : Int) ∧ Hid (Below w5.heap.size w5 wr)) (fun i _ => L.length - (intOf i).toNat)
          case atStart => exact ⟨0, Nat.zero_le _, rfl, Below.refl _ _⟩
          case round =>
            obtain ⟨q, hq, rfl, hB⟩ := hrel
            by_cases hlt : q < L.length
            · have hqL : L[q]? = some L[q] := by simp [hlt]
              obtain ⟨gL, oL, rfl, hgL, c0⟩ := (unhideR HCE).get hqL
              have HX := hideR (unhideR HM1 L[q] (List.getElem_mem hlt))
              have HP : Hid (∀ r y, q = r + 1 → L[r]? = some y → y < L[q]) := by
                intro r y e hy
                obtain ⟨hr, rfl⟩ := List.getElem?_eq_some_iff.1 hy
                exact List.pairwise_iff_getElem.1 (unhideR HPW) r q hr hlt (by omega)
              clear hqL
              generalize L[q] = x at *
              generalize hWr : wr = W0 at *
              clear hWr
              go_wp2_with fail
              go_loopw [9, 10] (fun b i wr => ∃ (bb : Bool) (k : Nat), k ≤ p.1.length ∧ b = .bool bb ∧ i = .int .i64 (k : Int) ∧ Hid (bb = (p.1.take k).any (isA x)) ∧ Hid (Below w5.heap.size w5 wr)) (fun _ i _ => p.1.length - (intOf i).toNat)
              case atStart => exact ⟨false, 0, Nat.zero_le _, rfl, rfl, rfl, hB⟩
              case round =>
                obtain ⟨bb, k, hk, rfl, rfl, hbb, hB1⟩ := hrel
                by_cases hlt1 : k < p.1.length
                · have hkA : p.1[k]? = some p.1[k] := by simp [hlt1]
                  obtain ⟨gA, oA, aS, cS, rfl, hgA, a0, hSy, hS, hsc⟩ := (unhideR HAL).get hkA
                  have TK : Hid ((p.1.take (k + 1)).any (isA x) = ((p.1.take k).any (isA x) || isA x p.1[k])) := any_take _ hlt1
                  have HSy := hideR hSy
                  unfold maxLen at hsc
                  clear hkA hSy
                  generalize p.1[k] = l at *
                  have bx : wr.cell? ⟨w.heap.size, 0, none⟩ = some (.slice (some ⟨gp, off, none⟩) P.length c) := ((unhideR hB1).cell (p := ⟨w.heap.size, 0, none⟩) (block_lt' Fbx)).trans Fbx
                  have ps : wr.cell? ⟨gp, off + 3 * i, none⟩ = some (.slice (some ⟨gA, oA, none⟩) p.1.length cA) := ((unhideR hB1).cell (p := ⟨gp, off + 3 * i, none⟩) (block_lt' Fps)).trans Fps
                  have al : wr.cell? ⟨gA, oA + k, none⟩ = some (.slice aS l.length cS) := ((unhideR hB1).cell (p := ⟨gA, oA + k, none⟩) hgA).trans a0
                  generalize hWr : wr = W1 at *
                  clear hWr
                  go_wp2_with fail
                  go_loopw [9, 11] (fun b i wr => ∃ (b2 : Bool) (j : Nat), j ≤ l.length ∧ b = .bool b2 ∧ i = .int .i64 (j : Int) ∧ Hid (b2 = ((p.1.take k).any (isA x) || (l.take j).any (isS x))) ∧ Hid (Below w5.heap.size w5 wr)) (fun _ i _ => l.length - (intOf i).toNat)
                  case atStart => exact ⟨bb, 0, Nat.zero_le _, rfl, rfl, by show _ = _; rw [unhideR hbb]; simp, hB1⟩
                  case round =>
                    obtain ⟨b2, j, hj, rfl, rfl, hb2, hB2⟩ := hrel
                    by_cases hlt2 : j < l.length
                    · have hjl : l[j]? = some l[j] := by simp [hlt2]
                      obtain ⟨gS, oS, rfl, hgS, s0, s2⟩ := (unhideR HSy).get hjl
                      have TJ : Hid ((l.take (j + 1)).any (isS x) = ((l.take j).any (isS x) || isS x l[j])) := any_take _ hlt2
                      have j3 : j * 3 = 3 * j := by omega
                      clear hjl bx ps al
                      generalize l[j] = s at *
                      obtain ⟨sk, sr, sn⟩ := s
                      simp only at s0 s2
                      have bxd : ∀ d, (wr.drewN d).cell? ⟨w.heap.size, 0, none⟩ = some (.slice (some ⟨gp, off, none⟩) P.length c) := fun d => ((unhideR hB2).cell (p := ⟨w.heap.size, 0, none⟩) (block_lt' Fbx)).trans Fbx
                      have bx : wr.cell? ⟨w.heap.size, 0, none⟩ = some (.slice (some ⟨gp, off, none⟩) P.length c) := ((unhideR hB2).cell (p := ⟨w.heap.size, 0, none⟩) (block_lt' Fbx)).trans Fbx
                      have psd : ∀ d, (wr.drewN d).cell? ⟨gp, off + 3 * i, none⟩ = some (.slice (some ⟨gA, oA, none⟩) p.1.length cA) := fun d => ((unhideR hB2).cell (p := ⟨gp, off + 3 * i, none⟩) (block_lt' Fps)).trans Fps
                      have ps : wr.cell? ⟨gp, off + 3 * i, none⟩ = some (.slice (some ⟨gA, oA, none⟩) p.1.length cA) := ((unhideR hB2).cell (p := ⟨gp, off + 3 * i, none⟩) (block_lt' Fps)).trans Fps
                      have al2d : ∀ d, (wr.drewN d).cell? ⟨gA, oA + k, none⟩ = some (.slice (some ⟨gS, oS, none⟩) l.length cS) := fun d => ((unhideR hB2).cell (p := ⟨gA, oA + k, none⟩) hgA).trans a0
                      have al2 : wr.cell? ⟨gA, oA + k, none⟩ = some (.slice (some ⟨gS, oS, none⟩) l.length cS) := ((unhideR hB2).cell (p := ⟨gA, oA + k, none⟩) hgA).trans a0
                      have kkd : ∀ d, (wr.drewN d).cell? ⟨gS, oS + 3 * j, none⟩ = some (.int .i64 sk) := fun d => ((unhideR hB2).cell (p := ⟨gS, oS + 3 * j, none⟩) hgS).trans s0
                      have kk : wr.cell? ⟨gS, oS + 3 * j, none⟩ = some (.int .i64 sk) := ((unhideR hB2).cell (p := ⟨gS, oS + 3 * j, none⟩) hgS).trans s0
                      have nnd : ∀ d, (wr.drewN d).cell? ⟨gS, oS + 3 * j + 2, none⟩ = some (.int .i64 sn) := fun d => ((unhideR hB2).cell (p := ⟨gS, oS + 3 * j + 2, none⟩) hgS).trans s2
                      have nn : wr.cell? ⟨gS, oS + 3 * j + 2, none⟩ = some (.int .i64 sn) := ((unhideR hB2).cell (p := ⟨gS, oS + 3 * j + 2, none⟩) hgS).trans s2
                      have led : ∀ d, (wr.drewN d).cell? ⟨gL, oL + q, none⟩ = some (.int .i64 x) := fun d => ((unhideR hB2).cell (p := ⟨gL, oL + q, none⟩) hgL).trans c0
                      have le : wr.cell? ⟨gL, oL + q, none⟩ = some (.int .i64 x) := ((unhideR hB2).cell (p := ⟨gL, oL + q, none⟩) hgL).trans c0
                      have NX : Hid (∀ r, r = (b2 || isS x (sk, sr, sn)) → r = ((p.1.take k).any (isA x) || (l.take (j + 1)).any (isS x))) := by
                        intro r hr
                        rw [hr, unhideR TJ, unhideR hb2, Bool.or_assoc]
                      clear TJ hb2 s0 s2 a0 c0
                      cases b2 with
                      | true =>
                        have NY : Hid (true = ((p.1.take k).any (isA x) || (l.take (j + 1)).any (isS x))) := unhideR NX true rfl
                        clear NX
                        go_wp2_with fail
                        go_quiet (fail)
                        go_wp2_with fail
                        exact ⟨⟨true, j + 1, by omega, rfl, by simp, NY, (unhideR hB2).trans draws_b⟩, by simp [intOf]; omega⟩
                      | false =>
                        by_cases h2 : sk = 2
                        · subst h2
                          by_cases hx : sn = x
                          · have be : (sn == x) = true := by simp [hx]
                            have NY : Hid (true = ((p.1.take k).any (isA x) || (l.take (j + 1)).any (isS x))) := unhideR NX true (by simp [isS, hx])
                            clear NX hx
                            go_wp2_with fail
                            go_quiet (fail)
                            go_wp2_with fail
                            exact ⟨⟨true, j + 1, by omega, rfl, by simp, NY, (unhideR hB2).trans draws_b⟩, by simp [intOf]; omega⟩
                          · have be : (sn == x) = false := by simp [hx]
                            have NY : Hid (false = ((p.1.take k).any (isA x) || (l.take (j + 1)).any (isS x))) := unhideR NX false (by simp [isS, hx])
                            clear NX hx
                            go_wp2_with fail
                            go_quiet (fail)
                            go_wp2_with fail
                            exact ⟨⟨false, j + 1, by omega, rfl, by simp, NY, (unhideR hB2).trans draws_b⟩, by simp [intOf]; omega⟩
                        · have be : (sk == 2) = false := by simp [h2]
                          have NY : Hid (false = ((p.1.take k).any (isA x) || (l.take (j + 1)).any (isS x))) := unhideR NX false (by simp [isS, h2])
                          clear NX h2
                          go_wp2_with fail
                          go_quiet (fail)
                          go_wp2_with fail
                          exact ⟨⟨false, j + 1, by omega, rfl, by simp, NY, (unhideR hB2).trans draws_b⟩, by simp [intOf]; omega⟩
                    · obtain rfl : j = l.length := by omega
                      have NY : Hid (b2 = (p.1.take (k + 1)).any (isA x)) := by
                        show _ = _
                        rw [unhideR hb2, unhideR TK, List.take_length]; rfl
                      clear hb2 TK bx ps al
                      have bx : wr.cell? ⟨w.heap.size, 0, none⟩ = some (.slice (some ⟨gp, off, none⟩) P.length c) := ((unhideR hB2).cell (p := ⟨w.heap.size, 0, none⟩) (block_lt' Fbx)).trans Fbx
                      have ps : wr.cell? ⟨gp, off + 3 * i, none⟩ = some (.slice (some ⟨gA, oA, none⟩) p.1.length cA) := ((unhideR hB2).cell (p := ⟨gp, off + 3 * i, none⟩) (block_lt' Fps)).trans Fps
                      have al : wr.cell? ⟨gA, oA + k, none⟩ = some (.slice aS l.length cS) := ((unhideR hB2).cell (p := ⟨gA, oA + k, none⟩) hgA).trans a0
                      go_wp2_with fail
                      exact ⟨⟨b2, k + 1, by omega, rfl, by simp, NY, hB2⟩, by simp [intOf]; omega⟩
                · obtain rfl : k = p.1.length := by omega
                  have bbt : bb = true := by rw [unhideR hbb, List.take_length]; exact unhideR HX
                  subst bbt
                  clear hbb HX
                  have bx : wr.cell? ⟨w.heap.size, 0, none⟩ = some (.slice (some ⟨gp, off, none⟩) P.length c) := ((unhideR hB1).cell (p := ⟨w.heap.size, 0, none⟩) (block_lt' Fbx)).trans Fbx
                  have ps5 : wr.cell? ⟨gp, off + 3 * i, none⟩ = some (.slice aA p.1.length cA) := ((unhideR hB1).cell (p := ⟨gp, off + 3 * i, none⟩) (block_lt' Fps)).trans Fps
                  have led : ∀ d, (wr.drewN d).cell? ⟨gL, oL + q, none⟩ = some (.int .i64 x) := fun d => ((unhideR hB1).cell (p := ⟨gL, oL + q, none⟩) hgL).trans c0
                  have le : wr.cell? ⟨gL, oL + q, none⟩ = some (.int .i64 x) := ((unhideR hB1).cell (p := ⟨gL, oL + q, none⟩) hgL).trans c0
                  rcases Nat.eq_zero_or_pos q with h0 | h0
                  · have bg : decide (0 < (q : Int)) = false := decide_eq_false (by omega)
                    have bg3 : decide (0 < q) = false := decide_eq_false (by omega)
                    clear h0 HP
                    go_wp2_with fail
                    go_quiet (fail)
                    go_wp2_with fail
                    exact ⟨⟨q + 1, by omega, by simp, (unhideR hB1).trans draws_b⟩, by simp [intOf]; omega⟩
                  · obtain ⟨r, rfl⟩ : ∃ r, q = r + 1 := ⟨q - 1, by omega⟩
                    have hrL : L[r]? = some L[r] := by simp
                    obtain ⟨gL2, oL2, e2, hgL2, c2⟩ := (unhideR HCE).get hrL
                    injection e2 with e2
                    injection e2 with e2 e3
                    subst e2; subst e3
                    have hlt3 := unhideR HP r L[r] rfl hrL
                    have bg : decide (0 < ((r : Int) + 1)) = true := decide_eq_true (by omega)
                    have bg2 : decide (0 < ((r + 1 : Nat) : Int)) = true := decide_eq_true (by omega)
                    have bg3 : decide (0 < r + 1) = true := decide_eq_true (by omega)
                    have bl : decide (x ≤ L[r]) = false := decide_eq_false (by omega)
                    have er : ((r + 1 : Nat) : Int) - 1 = (r : Int) := by omega
                    have er2 : (r : Int) + 1 - 1 = (r : Int) := by omega
                    clear hrL hlt3 HP h0
                    generalize L[r] = y at *
                    have lfd : ∀ d, (wr.drewN d).cell? ⟨gL, oL + r, none⟩ = some (.int .i64 y) := fun d => ((unhideR hB1).cell (p := ⟨gL, oL + r, none⟩) hgL).trans c2
                    have lf : wr.cell? ⟨gL, oL + r, none⟩ = some (.int .i64 y) := ((unhideR hB1).cell (p := ⟨gL, oL + r, none⟩) hgL).trans c2
                    go_wp2_with fail
                    go_quiet (fail)
                    go_wp2_with fail
                    exact ⟨⟨r + 1 + 1, by omega, by simp, (unhideR hB1).trans draws_b⟩, by simp [intOf]; omega⟩
            · obtain rfl : q = L.length := by omega
              go_wp2_with fail
              go_loopw [12] (fun i wr => ∃ (k : Nat), k ≤ p.1.length ∧ i = .int .i64 (k : Int) ∧ Hid (Below w5.heap.size w5 wr)) (fun i _ => p.1.length - (intOf i).toNat)
              case atStart => exact ⟨0, Nat.zero_le _, rfl, hB⟩
              case round =>
                clear hB
                obtain ⟨k, hk, rfl, hB1⟩ := hrel
                by_cases hlt1 : k < p.1.length
                · have hkA : p.1[k]? = some p.1[k] := by simp [hlt1]
                  obtain ⟨gA, oA, aS, cS, rfl, hgA, a0, hSy, hS, hsc⟩ := (unhideR HAL).get hkA
                  have HSy := hideR hSy
                  have HM := hideR (unhideR HM2 p.1[k] (List.getElem_mem hlt1))
                  unfold maxLen at hsc
                  clear hkA hSy
                  generalize p.1[k] = l at *
                  have bx : wr.cell? ⟨w.heap.size, 0, none⟩ = some (.slice (some ⟨gp, off, none⟩) P.length c) := ((unhideR hB1).cell (p := ⟨w.heap.size, 0, none⟩) (block_lt' Fbx)).trans Fbx
                  have ps : wr.cell? ⟨gp, off + 3 * i, none⟩ = some (.slice (some ⟨gA, oA, none⟩) p.1.length cA) := ((unhideR hB1).cell (p := ⟨gp, off + 3 * i, none⟩) (block_lt' Fps)).trans Fps
                  have al : wr.cell? ⟨gA, oA + k, none⟩ = some (.slice aS l.length cS) := ((unhideR hB1).cell (p := ⟨gA, oA + k, none⟩) hgA).trans a0
                  rcases l with _ | ⟨s, t⟩
                  · simp only [List.length_nil] at al
                    clear HSy HM hS
                    have BW := hB1
                    go_wp2_with fail
                    go_loopw [14, 15] (fun b i wr => b = .bool true ∧ i = .int .i64 (0 : Int) ∧ Hid (Below w5.heap.size w5 wr)) (fun _ i _ => 0)
                    case atStart => exact ⟨rfl, rfl, BW⟩
                    case round =>
                      obtain ⟨rfl, rfl, hB2⟩ := hrel
                      by_cases hL0 : L.length = 0
                      · have bL : decide (0 < (L.length : Int)) = false := decide_eq_false (by omega)
                        have bL2 : decide (0 < L.length) = false := decide_eq_false (by omega)
                        clear hL0
                        go_wp2_with fail
                        exact ⟨⟨k + 1, by omega, by simp, hB2⟩, by simp [intOf]; omega⟩
                      · have bL : decide (0 < (L.length : Int)) = true := decide_eq_true (by omega)
                        have bL2 : decide (0 < L.length) = true := decide_eq_true (by omega)
                        clear hL0
                        go_wp2_with fail
                        exact ⟨⟨k + 1, by omega, by simp, hB2⟩, by simp [intOf]; omega⟩
                  · obtain ⟨gS, oS, rfl, hgS, s0, s2⟩ := (unhideR HSy).get (j := 0) (s := s) rfl
                    obtain ⟨nl, hnl, hnp⟩ : ∃ nl, (s :: t).length = nl ∧ 0 < nl := ⟨_, rfl, by simp⟩
                    have bz : ((nl : Int) == 0) = false := by simp; omega
                    have bz2 : (nl == 0) = false := by simp; omega
                    have HMs := hideR (unhideR HM s t rfl)
                    rw [hnl] at al hS a0
                    clear HM HSy hnl bx ps al
                    obtain ⟨sk, sr, sn⟩ := s
                    simp only [Nat.mul_zero, Nat.add_zero] at s0 s2 HMs
                    have bxd : ∀ d, (wr.drewN d).cell? ⟨w.heap.size, 0, none⟩ = some (.slice (some ⟨gp, off, none⟩) P.length c) := fun d => ((unhideR hB1).cell (p := ⟨w.heap.size, 0, none⟩) (block_lt' Fbx)).trans Fbx
                    have bx : wr.cell? ⟨w.heap.size, 0, none⟩ = some (.slice (some ⟨gp, off, none⟩) P.length c) := ((unhideR hB1).cell (p := ⟨w.heap.size, 0, none⟩) (block_lt' Fbx)).trans Fbx
                    have psd : ∀ d, (wr.drewN d).cell? ⟨gp, off + 3 * i, none⟩ = some (.slice (some ⟨gA, oA, none⟩) p.1.length cA) := fun d => ((unhideR hB1).cell (p := ⟨gp, off + 3 * i, none⟩) (block_lt' Fps)).trans Fps
                    have ps : wr.cell? ⟨gp, off + 3 * i, none⟩ = some (.slice (some ⟨gA, oA, none⟩) p.1.length cA) := ((unhideR hB1).cell (p := ⟨gp, off + 3 * i, none⟩) (block_lt' Fps)).trans Fps
                    have al3d : ∀ d, (wr.drewN d).cell? ⟨gA, oA + k, none⟩ = some (.slice (some ⟨gS, oS, none⟩) nl cS) := fun d => ((unhideR hB1).cell (p := ⟨gA, oA + k, none⟩) hgA).trans a0
                    have al3 : wr.cell? ⟨gA, oA + k, none⟩ = some (.slice (some ⟨gS, oS, none⟩) nl cS) := ((unhideR hB1).cell (p := ⟨gA, oA + k, none⟩) hgA).trans a0
                    have kk0d : ∀ d, (wr.drewN d).cell? ⟨gS, oS, none⟩ = some (.int .i64 sk) := fun d => ((unhideR hB1).cell (p := ⟨gS, oS, none⟩) hgS).trans s0
                    have kk0 : wr.cell? ⟨gS, oS, none⟩ = some (.int .i64 sk) := ((unhideR hB1).cell (p := ⟨gS, oS, none⟩) hgS).trans s0
                    have nn0d : ∀ d, (wr.drewN d).cell? ⟨gS, oS + 2, none⟩ = some (.int .i64 sn) := fun d => ((unhideR hB1).cell (p := ⟨gS, oS + 2, none⟩) hgS).trans s2
                    have nn0 : wr.cell? ⟨gS, oS + 2, none⟩ = some (.int .i64 sn) := ((unhideR hB1).cell (p := ⟨gS, oS + 2, none⟩) hgS).trans s2
                    clear t
                    by_cases h2 : sk = 2
                    · subst h2
                      have HMn := hideR (unhideR HMs rfl)
                      have bk : ((2 : Int) != 2) = false := by decide
                      clear HMs
                      have BW := hB1
                      go_wp2_with fail
                      all_goals try go_quiet (fail)
                      all_goals try go_wp2_with fail
                      go_loopw [14, 15] (fun b i wr => ∃ (bb : Bool) (r : Nat), r ≤ L.length ∧ b = .bool bb ∧ i = .int .i64 (r : Int) ∧ Hid (bb = (L.take r).any (fun y => y == sn)) ∧ Hid (Below w5.heap.size w5 wr)) (fun _ i _ => L.length - (intOf i).toNat)
                      case atStart => exact ⟨false, 0, Nat.zero_le _, rfl, rfl, rfl, BW⟩
                      case round =>
                        obtain ⟨bb, r, hr, rfl, rfl, hbb, hB2⟩ := hrel
                        by_cases hlt2 : r < L.length
                        · have br : decide ((r : Int) < (L.length : Int)) = true := decide_eq_true (by omega)
                          cases bb with
                          | true =>
                            clear hbb
                            go_wp2_with fail
                            exact ⟨⟨k + 1, by omega, by simp, hB2⟩, by simp [intOf]; omega⟩
                          | false =>
                            have hrL : L[r]? = some L[r] := by simp [hlt2]
                            obtain ⟨gL, oL, rfl, hgL, c0⟩ := (unhideR HCE).get hrL
                            have NX : Hid ((L.take (r + 1)).any (fun y => y == sn) = (L[r] == sn)) := by
                              show _ = _
                              rw [any_take _ hlt2, ← unhideR hbb]; rfl
                            clear hrL hbb
                            generalize L[r] = y at *
                            clear bx bxd ps psd al3 al3d kk0 kk0d nn0 nn0d
                            have nn0d : ∀ d, (wr.drewN d).cell? ⟨gS, oS + 2, none⟩ = some (.int .i64 sn) := fun d => ((unhideR hB2).cell (p := ⟨gS, oS + 2, none⟩) hgS).trans s2
                            have nn0 : wr.cell? ⟨gS, oS + 2, none⟩ = some (.int .i64 sn) := ((unhideR hB2).cell (p := ⟨gS, oS + 2, none⟩) hgS).trans s2
                            have lyd : ∀ d, (wr.drewN d).cell? ⟨gL, oL + r, none⟩ = some (.int .i64 y) := fun d => ((unhideR hB2).cell (p := ⟨gL, oL + r, none⟩) hgL).trans c0
                            have ly : wr.cell? ⟨gL, oL + r, none⟩ = some (.int .i64 y) := ((unhideR hB2).cell (p := ⟨gL, oL + r, none⟩) hgL).trans c0
                            by_cases hy : y = sn
                            · have be : (y == sn) = true := by simp [hy]
                              have NY : Hid (true = (L.take (r + 1)).any (fun y => y == sn)) := by show _ = _; rw [unhideR NX, be]
                              clear NX hy
                              go_wp2_with fail
                              go_quiet (fail)
                              go_wp2_with fail
                              exact ⟨⟨true, r + 1, by omega, rfl, by simp, NY, (unhideR hB2).trans draws_b⟩, by simp [intOf]; omega⟩
                            · have be : (y == sn) = false := by simp [hy]
                              have NY : Hid (false = (L.take (r + 1)).any (fun y => y == sn)) := by show _ = _; rw [unhideR NX, be]
                              clear NX hy
                              go_wp2_with fail
                              go_quiet (fail)
                              go_wp2_with fail
                              exact ⟨⟨false, r + 1, by omega, rfl, by simp, NY, (unhideR hB2).trans draws_b⟩, by simp [intOf]; omega⟩
                        · obtain rfl : r = L.length := by omega
                          have bbt : bb = true := by
                            rw [unhideR hbb, List.take_length]
                            exact List.any_eq_true.2 ⟨sn, unhideR HMn, by simp⟩
                          subst bbt
                          clear hbb
                          go_wp2_with fail
                          exact ⟨⟨k + 1, by omega, by simp, hB2⟩, by simp [intOf]; omega⟩
                    · have bk : (sk != 2) = true := by simpa using h2
                      have bk2 : (sk == 2) = false := by simpa using h2
                      clear h2 HMs
                      have BW := hB1
                      go_wp2_with fail
                      all_goals try go_quiet (fail)
                      all_goals try go_wp2_with fail
                      go_loopw [14, 15] (fun b i wr => b = .bool true ∧ i = .int .i64 (0 : Int) ∧ Hid (Below w5.heap.size w5 wr)) (fun _ i _ => 0)
                      case atStart => exact ⟨rfl, rfl, BW⟩
                      case round =>
                        obtain ⟨rfl, rfl, hB2⟩ := hrel
                        by_cases hL0 : L.length = 0
                        · have bL : decide (0 < (L.length : Int)) = false := decide_eq_false (by omega)
                          have bL2 : decide (0 < L.length) = false := decide_eq_false (by omega)
                          clear hL0
                          go_wp2_with fail
                          exact ⟨⟨k + 1, by omega, by simp, hB2⟩, by simp [intOf]; omega⟩
                        · have bL : decide (0 < (L.length : Int)) = true := decide_eq_true (by omega)
                          have bL2 : decide (0 < L.length) = true := decide_eq_true (by omega)
                          clear hL0
                          go_wp2_with fail
                          exact ⟨⟨k + 1, by omega, by simp, hB2⟩, by simp [intOf]; omega⟩
                · obtain rfl : k = p.1.length := by omega
                  have bx : wr.cell? ⟨w.heap.size, 0, none⟩ = some (.slice (some ⟨gp, off, none⟩) P.length c) := ((unhideR hB1).cell (p := ⟨w.heap.size, 0, none⟩) (block_lt' Fbx)).trans Fbx
                  have ps5 : wr.cell? ⟨gp, off + 3 * i, none⟩ = some (.slice aA p.1.length cA) := ((unhideR hB1).cell (p := ⟨gp, off + 3 * i, none⟩) (block_lt' Fps)).trans Fps
                  go_wp2_with fail
                  go_ret
                  exact ⟨rfl, nthen (unhideR HB5) (unhideR hB1)⟩
end Go.Proofs.YtamefbpdnblbdaaGreatDoor.Nl

