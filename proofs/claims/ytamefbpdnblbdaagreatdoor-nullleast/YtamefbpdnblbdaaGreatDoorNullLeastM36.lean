/- Parts of the proof of NullLeast that stand ahead of it (36: NlLf, NlSame, NlAwake, NlLLefts, NlLLeast). -/
import Derived.Test.YtamefbpdnblbdaaGreatDoorNullLeastM34
import Derived.Test.YtamefbpdnblbdaaGreatDoorNullLeastM26
import Derived.Test.YtamefbpdnblbdaaGreatDoorNullLeastM33
namespace Go.Proofs.YtamefbpdnblbdaaGreatDoor.Nl
open Go.RowKit Go.Shelf Go.Proofs.YtamefbpdnblbdaaGreatDoor.T Go.Proofs.YtamefbpdnblbdaaGreatDoor.R Go.Proofs.YtamefbpdnblbdaaGreatDoor.F
set_option linter.unusedVariables false
set_option linter.unusedSimpArgs false

def lefL (is : List Bool) : List SY → List Int
  | [] => []
  | s :: l => if s.1 = 2 then s.2.2 :: (if nulS is s = true then lefL is l else []) else []
theorem lef_is {P : List PRD} {E : List Int} (hE : ∀ x, x ∈ E ↔ isN P x) : ∀ l : List SY, lefE E l = lefL (nuL P) l := by
  intro l
  induction l with
  | nil => rfl
  | cons s l ih =>
    unfold lefE lefL
    by_cases h2 : s.1 = 2
    · rw [if_pos h2, if_pos h2, ih]
      by_cases hn : s.2.2 ∈ E
      · rw [if_pos hn, if_pos (nulS_nu.2 ⟨h2, (hE _).1 hn⟩)]
      · rw [if_neg hn, if_neg (fun c => hn ((hE _).2 (nulS_nu.1 c).2))]
    · rw [if_neg h2, if_neg h2]
def leftP (g : GR) (n x : Int) : Prop := gramB g.1 = true ∧ ∃ (i : Nat) (p : PRD) (a : List SY), n = (i : Int) ∧ g.1[i]? = some p ∧ a ∈ p.1 ∧ x ∈ lefL (nuL g.1) a
def LfR (w : World) (g : GR) (n : Int) (e : Ending) (w' : World) : Prop := ∃ v L, e = .returned v ∧ InV w' w.heap.size v L ∧ List.Pairwise (· < ·) L ∧ (∀ x, x ∈ L ↔ leftP g n x) ∧ Below w.heap.size w w'
theorem InV.nil (w : World) (base : Nat) : InV w base (.slice none 0 0) [] := World.ownsRow_nil w base _ _
theorem LfR.none {w w' : World} {g : GR} {n : Int} (h : ∀ x, ¬ leftP g n x) (b : Below w.heap.size w w') : LfR w g n (.returned (.slice none 0 0)) w' :=
  ⟨_, [], rfl, InV.nil _ _, List.Pairwise.nil, fun x => ⟨fun c => (by cases c), fun c => absurd c (h x)⟩, b⟩
structure LfI (w : World) (b bl k1 : Nat) (E pre0 : List Int) (v : Value) (l : List SY) (ds : List Deferred) (pre : List Int) (W : World) : Prop where
  emp : SetV W b E
  set : SetV W bl (pre0 ++ pre)
  sy : SyL W w.heap.size v l
  bx : W.heap[bl + 1]? = some (boxS bl)
  c1 : W.heap[k1]? = some (boxS b)
  c2 : W.heap[k1 + 1]? = some (boxY v)
  bel : Below w.heap.size w W
  mrk : Marks (bl + 2) W ds
  ml : ∀ D, markD D ∈ ds → D < k1
theorem LfI.below {w W W' : World} {b bl k1 : Nat} {E pre0 pre : List Int} {v : Value} {l : List SY} {ds : List Deferred} (h : LfI w b bl k1 E pre0 v l ds pre W) (k : Below (k1 + 2) W W') (hb : b < bl) (hbl : bl + 2 ≤ k1) (hw : w.heap.size ≤ bl) : LfI w b bl k1 E pre0 v l ds pre W' :=
  ⟨h.emp.later k (by omega), h.set.later k (by omega), h.sy.later (k.mono (by omega)), (k.block _ (by omega)).trans h.bx, (k.block _ (by omega)).trans h.c1, (k.block _ (by omega)).trans h.c2, h.bel.trans (k.mono (by omega)),
    h.mrk.keep ds fun D hD hW => (k.block D (by have := h.ml D hD; omega)).trans hW, h.ml⟩
theorem LfI.put {w W W' : World} {b bl k1 : Nat} {E pre0 pre : List Int} {v : Value} {l : List SY} {ds : List Deferred} {x : Int} (h : LfI w b bl k1 E pre0 v l ds pre W) (hs : SetV W' bl ((pre0 ++ pre) ++ [x])) (k : Bo bl W W') (hb : b < bl) (hbl : bl + 2 ≤ k1) (hw : w.heap.size ≤ bl) (hW : k1 + 2 ≤ W.heap.size) : LfI w b bl k1 E pre0 v l ds (pre ++ [x]) W' := by
  have kb : ∀ g, g < W.heap.size → g ≠ bl → W'.heap[g]? = W.heap[g]? := fun g h1 h2 => k.block g h1 (fun e => h2 (by injection e))
  have kB : Below w.heap.size W W' := ⟨k.os, k.tape, k.output, k.size, fun i hi => kb i (by omega) (by omega)⟩
  exact ⟨h.emp.keep (kb _ (by omega) (by omega)), by rw [← List.append_assoc]; exact hs, h.sy.later kB, (kb _ (by omega) (by omega)).trans h.bx, (kb _ (by omega) (by omega)).trans h.c1, (kb _ (by omega) (by omega)).trans h.c2, h.bel.trans kB,
    h.mrk.keep ds fun D hD hX => (kb D (by have := h.ml D hD; omega) (by have := (h.mrk.lt ds D hD).1; omega)).trans hX, h.ml⟩
theorem InV.off {W X : World} {base base' : Nat} {v : Value} {L : List Int} (h : InV W base v L) (hb : base' ≤ base) (k : ∀ (k : Nat) (o : Obj), W.heap[k]? = some o → (∀ x, o ≠ Obj.deferred x) → X.heap[k]? = some o) : InV X base' v L := by
  refine ⟨h.1, ?_⟩
  rcases h.2 with hn | ⟨g, cap, cur, e, h1, hg, rest⟩
  · exact .inl hn
  · exact .inr ⟨g, cap, cur, e, Nat.le_trans hb h1, k g _ hg (fun x c => by cases c), rest⟩
theorem box_cell {W : World} {k b : Nat} (h : W.heap[k]? = some (boxS b)) : W.cell? ⟨k, 0, none⟩ = some (.map (some b)) := by simp [World.cell?, h]
def lfT (g0 : Value) (i : Int) (wz b bz : Nat) (sP : Value) (nP : Int) (pp sA : Value) (nA k : Int) (u8 u9 u36 u37 u38 u39 u40 u41 u42 u43 u44 u45 u46 : Value) : Array Value :=
  #[g0, .int .i64 i, .pointer (some ⟨wz, 0, none⟩), undef, .slice none 0 0, .map (some b), .pointer (some ⟨bz + 1, 0, none⟩), undef, u8, u9, g0, .bool true, .bool false, .bool false, .int .i64 i, .bool false, .bool false, .bool false, .int .i64 i,
    .pointer (some ⟨wz, 0, none⟩), sP, .int .i64 nP, .bool false, .bool false, .pointer (some ⟨wz, 0, none⟩), sP, .map (some b), .map (some bz), .pointer (some ⟨wz, 0, none⟩), sP, .int .i64 i, pp, pp, sA, .int .i64 nA, .int .i64 k, u36, u37, u38, u39, u40, u41, u42, u43, u44, u45, u46, undef, undef, undef]
def LfL (w w2 : World) (b : Nat) (E : List Int) (A : List (List SY)) (g0 : Value) (i : Int) (sP : Value) (nP : Int) (pp sA : Value) (a' : Act) (W' : World) : Prop :=
  ∃ (k : Nat) (ki : Int) (ds : List Deferred) (pre : List Int) (u8 u9 u36 u37 u38 u39 u40 u41 u42 u43 u44 u45 u46 : Value),
    ki = (k : Int) ∧ a' = { tmps := lfT g0 i w.heap.size b w2.heap.size sP nP pp sA (A.length : Nat) ki u8 u9 u36 u37 u38 u39 u40 u41 u42 u43 u44 u45 u46, defers := ds } ∧ k ≤ A.length ∧ Hid (pre = (A.take k).flatMap (lefE E)) ∧ pre.length ≤ 40 * k ∧
    Hid (SetV W' b E) ∧ Hid (SetV W' w2.heap.size pre) ∧ Hid (W'.heap[w2.heap.size + 1]? = some (boxS w2.heap.size)) ∧ Hid (Below w.heap.size w W') ∧ w2.heap.size + 2 ≤ W'.heap.size ∧ Hid (Marks (w2.heap.size + 2) W' ds)
attribute [local go_sem] Oper.semAt_some
set_option maxRecDepth 20000 in
set_option maxHeartbeats 8000000 in
theorem nLefts_yes (v : Value) (g : GR) (i : Nat) (p : PRD) (w : World) (h : GrM w v g) (hg : gramB g.1 = true) (hi : g.1[i]? = some p) :
    Calls Tryz.prog 19 #[v, .int .i64 (i : Int)] w fun e w' => LfR w g (i : Int) e w' := by
  have CM := hideR (fun W (bW : Below w.heap.size w W) => fMayM_l v g W (h.later bW))
  obtain ⟨a, c, aK, cK, rfl, hp, -⟩ := id h
  obtain ⟨P, K⟩ := g
  simp only at CM hp hg hi ⊢
  rw [hg] at CM
  obtain ⟨-, h60, h8, h40, ok, hf⟩ := gram_ok hg
  have hmm := @run_makeMap Tryz.prog
  have hx : ∀ args w, (callFunc 69 args).run Tryz.prog w = .ok (.enter 69 args) w := enters_of Tryz.func69 (by kernel_rfl) rfl
  have hpr := hp.prl hf
  have HP := hideR hpr
  have CE := hideR (fun W (bW : Below w.heap.size w W) => emptyOf_l w.heap.size _ P W ((unhideR HP).later bW) bW.size h60 h8 ok)
  have hiL := (List.getElem?_eq_some_iff.1 hi).1
  have hmem := List.mem_of_getElem? hi
  have h8p := h8 p hmem
  have H40 := hideR (h40 p hmem)
  have HFT := hideR (hf p hmem)
  have HLP : Hid (∀ x, leftP (P, K) (i : Int) x ↔ ∃ a ∈ p.1, x ∈ lefL (nuL P) a) := by
    intro x
    constructor
    · rintro ⟨-, j, q, al, e, hq, ha, hx⟩
      obtain rfl : i = j := by omega
      simp only at hq
      rw [hi] at hq
      injection hq with hq
      subst hq
      exact ⟨al, ha, hx⟩
    · rintro ⟨al, ha, hx⟩
      exact ⟨hg, i, p, al, rfl, hi, ha, hx⟩
  obtain ⟨a0, c0, e0, hc1, hc2, h3⟩ := hpr
  injection e0 with e1 e2 e3
  subst e1; subst e3
  obtain ⟨gp, off, u, m, x, n', kk, rfl, hgp, q0, q1, q2, hA⟩ := h3 i p hi
  obtain ⟨aA, cA, rfl, hA1, hA2, -⟩ := id hA
  have HA := hideR hA
  have Q0 := fun W (bW : Below w.heap.size w W) => (bW.cell (p := ⟨gp, off + 3 * i, none⟩) hgp).trans q0
  unfold maxLen at hc2 hA2
  clear h hp hg h60 h8 h40 ok hf h3 e2 hA hi hmem HP
  have bn : decide ((i : Int) < 0) = false := decide_eq_false (by omega)
  have bm : decide ((P.length : Int) ≤ (i : Int)) = false := decide_eq_false (by omega)
  have i3 : i * 3 = 3 * i := by omega
  generalize K.length = nK at *
  refine (callsIn_wide (n := 8)).1 ?_
  refine callsIn_of_wp_marks Tryz.func19 rfl trivial ?_ rfl
  simp only [Tryz.ntmps19, List.size_toArray, List.length_cons, List.length_nil, Nat.reduceAdd, Nat.reduceSub, Array.replicate_succ, Array.replicate_zero, List.push_toArray, List.append_toArray, List.nil_append, List.cons_append]
  gi_wp2_with fail
  refine ⟨trivial, ?_⟩
  refine (callsIn_wide.2 (unhideR CM _ (Below.new1 _))).mono ?_
  rintro e w1 ⟨rfl, b1⟩
  clear CM
  have hk1 := nkept b1
  obtain ⟨y0, y1, -, -⟩ := ncells2 hk1
  have B1 := hideR (nthen (Below.new1 _) b1)
  clear b1
  gi_wp2_with fail
  refine ⟨trivial, ?_⟩
  refine (callsIn_wide.2 (unhideR CE _ (unhideR B1))).mono ?_
  rintro e w2 ⟨b, E, rfl, hS, hE, hwb, b2⟩
  clear CE y0 y1
  have hk2 := (b2.block _ (Array.getElem?_eq_some_iff.1 hk1).1).trans hk1
  have hlt2 := (Array.getElem?_eq_some_iff.1 hk2).1
  have bz : Below w2.heap.size w2 ((w2.alloc (.map #[] 0)).alloc (boxS w2.heap.size)) := (Below.new1 _).alloc (by simp) _
  have hk3 := (bz.block _ hlt2).trans hk2
  obtain ⟨y0, y1, -, -⟩ := ncells2 hk3
  have B2 := hideR (nthen (unhideR B1) b2)
  have B3 := hideR (nthen (unhideR B2) bz)
  have s2 := (unhideR B2).size
  have qq := Q0 _ (unhideR B3)
  have HS := hideR hS
  have HE := hideR hE
  clear hS hE b2 hk1 hk2 hk3 B1 Q0 q0 q1 q2
  gi_wp2_with fail
  have hbl := (unhideR HS).lt
  have Z1 : Hid (SetV ((w2.alloc (.map #[] 0)).alloc (boxS w2.heap.size)) b E) := (unhideR HS).later bz hbl
  have Z2 : Hid (SetV ((w2.alloc (.map #[] 0)).alloc (boxS w2.heap.size)) w2.heap.size []) := (SetV.new w2).keep ((Below.new1 _).block _ (by simp))
  have Z3 : Hid (((w2.alloc (.map #[] 0)).alloc (boxS w2.heap.size)).heap[w2.heap.size + 1]? = some (boxS w2.heap.size)) := by
    have := heap_alloc_new (w2.alloc (.map #[] 0)) (boxS w2.heap.size)
    rwa [World.size_alloc] at this
  have sz : ((w2.alloc (.map #[] 0)).alloc (boxS w2.heap.size)).heap.size = w2.heap.size + 2 := by simp
  clear bz HS B2 qq y0 y1 hmm
  generalize ((w2.alloc (.map #[] 0)).alloc (boxS w2.heap.size)) = Z at *
  refine wpIn_loop (LfL w w2 b E p.1 (.agg #[.slice (some ⟨gp, off, none⟩) P.length c, .slice aK nK cK]) (i : Int) (.slice (some ⟨gp, off, none⟩) P.length c) (P.length : Nat) (.pointer (some ⟨gp, off + 3 * i, none⟩)) (.slice aA p.1.length cA))
    (fun a' _ => p.1.length - (intOf (a'.tmps.getD 35 undef)).toNat) ?_ ?_
  · exact ⟨0, 0, [], [], undef, undef, undef, undef, undef, undef, undef, undef, undef, undef, undef, undef, undef, rfl, rfl, Nat.zero_le _, rfl, Nat.zero_le _, Z1, Z2, Z3, B3, by omega, trivial⟩
  · rintro a' W' ⟨k, ki, ds, pre, u8, u9, u36, u37, u38, u39, u40, u41, u42, u43, u44, u45, u46, rfl, rfl, hk, hO, hlen, hE1, hL, hbx, hB, hsz, hM⟩
    clear Z1 Z2 Z3 B3 sz
    unfold lfT
    by_cases hlt : k < p.1.length
    · obtain ⟨a', c', e, -, -, h3⟩ := (unhideR HA).later (unhideR hB)
      injection e with e1 e2 e3
      subst e1; subst e3
      have hkl : p.1[k]? = some p.1[k] := by simp [hlt]
      obtain ⟨g2, off2, u2, rfl, hg2, r0, hsy⟩ := h3 k p.1[k] hkl
      have hl40 := unhideR H40 _ (List.getElem_mem hlt)
      have hfl := hideR (unhideR HFT _ (List.getElem_mem hlt))
      have ST : Hid ((p.1.take (k + 1)).flatMap (lefE E) = (p.1.take k).flatMap (lefE E) ++ lefE E p.1[k]) := by
        show _ = _
        rw [List.take_succ_eq_append_getElem hlt, List.flatMap_append]; simp
      obtain ⟨a5, c5, rfl, -⟩ := id hsy
      have HSY := hideR hsy
      have CL := hideR (lefts_l b a5 (p.1[k]).length c5 W')
      have hll := lef_len (E := E) p.1[k]
      clear h3 hkl e2 hsy
      generalize p.1[k] = l at *
      gi_wp2_with fail
      refine ⟨trivial, ?_⟩
      refine (callsIn_wide.2 (unhideR CL)).mono ?_
      rintro e w3 ⟨rfl, hw3⟩
      subst hw3
      clear CL
      have sz3 : ((W'.alloc (boxS b)).alloc (boxY (.slice a5 l.length c5))).heap.size = W'.heap.size + 2 := by simp
      have I0 : LfI w b w2.heap.size W'.heap.size E pre (.slice a5 l.length c5) l ds [] ((W'.alloc (boxS b)).alloc (boxY (.slice a5 l.length c5))) := by
        have bb : Below W'.heap.size W' ((W'.alloc (boxS b)).alloc (boxY (.slice a5 l.length c5))) := (Below.new1 _).alloc (by simp) _
        refine ⟨(unhideR hE1).later bb (unhideR hE1).lt, by rw [List.append_nil]; exact (unhideR hL).later bb (unhideR hL).lt, (unhideR HSY).later (bb.mono (by omega)), (bb.block _ (by omega)).trans (unhideR hbx), ?_, ?_, nthen (unhideR hB) bb, (unhideR hM).later bb, fun D hD => (Array.getElem?_eq_some_iff.1 ((unhideR hM).lt ds D hD).2).1⟩
        · exact ((Below.new1 _).block _ (by simp)).trans (heap_alloc_new W' _)
        · have := heap_alloc_new (W'.alloc (boxS b)) (boxY (.slice a5 l.length c5))
          rwa [World.size_alloc] at this
      clear hE1 hL hbx hB hM HSY
      gi_wp2_with fail
      generalize hZ3 : ((W'.alloc (boxS b)).alloc (boxY (.slice a5 l.length c5))) = Z3 at *
      clear hZ3
      have HI0 := hideR I0
      clear I0
      refine rangeMore (n := 8) (by omega) (gf := 69) (cs := #[.pointer (some ⟨W'.heap.size + 1, 0, none⟩), .pointer (some ⟨W'.heap.size, 0, none⟩)]) rfl hx w2.heap.size (by rw [sz3]; omega) (LfI w b w2.heap.size W'.heap.size E pre (.slice a5 l.length c5) l ds)
        (fun q x => ∃ rest, q ++ x :: rest = lefE E l) (fun xs => xs = lefE E l) (fun q X X' hi k => hi.below (by rw [sz3] at k; exact k) hbl (by omega) s2) (unhideR HI0)
        (fun x => { tmps := lfT (.agg #[.slice (some ⟨gp, off, none⟩) P.length c, .slice aK nK cK]) (i : Int) w.heap.size b w2.heap.size (.slice (some ⟨gp, off, none⟩) P.length c) (P.length : Nat) (.pointer (some ⟨gp, off + 3 * i, none⟩)) (.slice (some ⟨g2, off2, none⟩) p.1.length cA) (p.1.length : Nat) (k : Int) (.slice a5 l.length c5) (.int .i64 x) (.bool true) (.pointer (some ⟨g2, off2 + k, none⟩)) (.slice a5 l.length c5) (.map (some b)) (.slice a5 l.length c5) (leftsF W'.heap.size (W'.heap.size + 1)) (.int .i64 x) u43 u44 u45 u46, defers := [] })
        ?assign ?body ?iter ?done
      case assign =>
        intro l' x X K' hK
        unfold lfT at hK
        gi_wp2
        exact hK
      case body =>
        rintro l' q x X hI ⟨rest, hx1⟩ hX
        rw [sz3] at hX
        have hql : q.length < l.length := by
          rw [← hx1, List.length_append, List.length_cons] at hll
          omega
        have hxl : x ∈ lefE E l := by rw [← hx1]; simp
        obtain ⟨sx, hsx, -, rfl⟩ := lef_sub hxl
        have CP := hideR (nput_l w2.heap.size (pre ++ q) sx.2.2 X hI.set (unhideR hfl sx hsx) (by rw [List.length_append]; omega))
        have q0 : X.cell? ⟨w2.heap.size + 1, 0, none⟩ = some (.map (some w2.heap.size)) := by simp [World.cell?, hI.bx]
        have HI := hideR hI
        clear hI hsx hxl hx1
        generalize sx.2.2 = z at *
        unfold lfT
        gi_wp2_with fail
        refine ⟨trivial, ?_⟩
        refine (CallsIn.inRound l' (callsIn_wide.2 (unhideR CP))).mono ?_
        rintro e X2 ⟨rfl, hs2, hg2⟩
        gi_wp2_with fail
        exact ⟨hg2, (unhideR HI).put hs2 hg2 hbl (by omega) s2 hX⟩
      case iter =>
        intro lr X J hs hb' hJI hJb hY h0
        rw [sz3] at hs
        refine (lefts_iter 7 (by omega) lr W'.heap.size (W'.heap.size + 1) b w.heap.size w2.heap.size E (.slice a5 l.length c5) l X J (fun q X1 hj => ?_) hJb (fun q x X1 h1 h2 h3 => hY q x X1 h1 h2 h3) (by omega) h0).mono ?_
        · have := hJI _ _ hj
          exact ⟨this.emp, this.sy, this.c1, this.c2⟩
        · rintro e X' ⟨hv, hj⟩
          exact ⟨hv, _, rfl, hj⟩
      case done =>
        intro xs X hE' hI hD'
        subst hE'
        have MK : Hid (Marks (w2.heap.size + 2) X (markD Z3.heap.size :: ds)) := ⟨Z3.heap.size, rfl, by rw [sz3]; omega, hD', fun D' hD2 e => by have := hI.ml D' hD2; rw [sz3] at e; omega, hI.mrk⟩
        have hXs : w2.heap.size + 2 ≤ X.heap.size := by have := (Array.getElem?_eq_some_iff.1 hI.c1).1; omega
        have HI := hideR hI
        have NX : Hid (pre ++ lefE E l = (p.1.take (k + 1)).flatMap (lefE E)) := by
          show _ = _
          rw [unhideR ST, unhideR hO]
        clear hI hD' HI0
        gi_wp2_with fail
        refine ⟨⟨k + 1, (k : Int) + 1, markD Z3.heap.size :: ds, pre ++ lefE E l, _, _, _, _, _, _, _, _, _, _, _, _, _, by omega, rfl, by omega, NX, by rw [List.length_append]; omega, (unhideR HI).emp, (unhideR HI).set, (unhideR HI).bx, (unhideR HI).bel, hXs, MK⟩, ?_⟩
        simp [intOf]; omega
    · obtain rfl : k = p.1.length := by omega
      have q0 : W'.cell? ⟨w2.heap.size + 1, 0, none⟩ = some (.map (some w2.heap.size)) := by
        have := unhideR hbx
        simp [World.cell?, this]
      have CK := hideR (keysN_l w2.heap.size W')
      have bb : Below W'.heap.size W' (W'.alloc (boxS w2.heap.size)) := Below.new1 _
      have CS := hideR (sortedN_l w2.heap.size W'.heap.size pre (W'.alloc (boxS w2.heap.size)) ((unhideR hL).later bb (unhideR hL).lt) (box_cell (heap_alloc_new W' (boxS w2.heap.size))) (by omega))
      have B4 := hideR (nthen (unhideR hB) bb)
      have M4 := hideR ((unhideR hM).later bb)
      have MEM : Hid (∀ x, x ∈ pre ↔ leftP (P, K) (i : Int) x) := by
        intro x
        rw [unhideR HLP x, unhideR hO, List.take_of_length_le (Nat.le_refl _), List.mem_flatMap]
        constructor
        · rintro ⟨al, ha, hx⟩
          exact ⟨al, ha, by rw [← lef_is (unhideR HE)]; exact hx⟩
        · rintro ⟨al, ha, hx⟩
          exact ⟨al, ha, by rw [lef_is (unhideR HE)]; exact hx⟩
      have s4 : w2.heap.size + 2 ≤ (W'.alloc (boxS w2.heap.size)).heap.size := by simp; omega
      clear hE1 hL hbx hB hM hO HA H40 HFT HLP HE hx
      gi_wp2_with fail
      refine ⟨trivial, ?_⟩
      refine (callsIn_wide.2 (unhideR CK)).mono ?_
      rintro e w5 ⟨rfl, hw5⟩
      subst hw5
      gi_wp2_with fail
      refine ⟨trivial, ?_⟩
      refine (callsIn_wide.2 (unhideR CS)).mono ?_
      rintro e w6 ⟨v6, L, rfl, hp6, hm6, hv6, b6⟩
      have M6 := (unhideR M4).later b6
      have B6 := nthen (unhideR B4) b6
      have s6 := b6.size
      have H6 := hideR (And.intro hp6 (And.intro hm6 hv6))
      clear CK CS hp6 hm6 hv6 b6
      gi_wp2_with fail
      refine Marks.leave _ _ M6 (by omega) fun X bX kX => ?_
      obtain ⟨hp6, hm6, hv6⟩ := unhideR H6
      refine ⟨_, results_tmp rfl _ _ _, v6, L, rfl, hv6.off (by omega) kX, hp6, fun x => (hm6 x).trans (unhideR MEM x), B6.trans (bX.mono (by omega))⟩
end Go.Proofs.YtamefbpdnblbdaaGreatDoor.Nl

namespace Go.Proofs.YtamefbpdnblbdaaGreatDoor.Nl
open Go.RowKit Go.Shelf Go.Proofs.YtamefbpdnblbdaaGreatDoor.T Go.Proofs.YtamefbpdnblbdaaGreatDoor.R Go.Proofs.YtamefbpdnblbdaaGreatDoor.F
set_option linter.unusedVariables false
set_option linter.unusedSimpArgs false

def eqG {α : Type} (e : α → α → Bool) : List α → List α → Bool
  | [], [] => true
  | x :: l, y :: m => e x y && eqG e l m
  | _, _ => false
theorem eqG_drop {α : Type} (e : α → α → Bool) {l m : List α} {k : Nat} (h : k < l.length) (h2 : k < m.length) : eqG e (l.drop k) (m.drop k) = (e l[k] m[k] && eqG e (l.drop (k + 1)) (m.drop (k + 1))) := by
  rw [List.drop_eq_getElem_cons h, List.drop_eq_getElem_cons h2]; rfl
theorem eqG_len {α : Type} (e : α → α → Bool) : ∀ (l m : List α), l.length ≠ m.length → eqG e l m = false := by
  intro l
  induction l with
  | nil => intro m h; cases m with
    | nil => simp at h
    | cons => rfl
  | cons x l ih =>
    intro m h
    cases m with
    | nil => rfl
    | cons y m => unfold eqG; rw [ih m (by simpa using h)]; simp
def CeV {α : Type} (enc : α → Value) (w : World) (v : Value) (l : List α) : Prop := ∃ a c, v = .slice a l.length c ∧ l.length ≤ c ∧ c ≤ maxLen ∧ ∀ j b, l[j]? = some b → ∃ g off, a = some ⟨g, off, none⟩ ∧ g < w.heap.size ∧ w.cell? ⟨g, off + j, none⟩ = some (enc b)
theorem CeV.later {α : Type} {enc : α → Value} {w X : World} {v : Value} {l : List α} (h : CeV enc w v l) (k : Below w.heap.size w X) : CeV enc X v l := by
  obtain ⟨a, c, e, h1, h2, h3⟩ := h
  refine ⟨a, c, e, h1, h2, fun j b hj => ?_⟩
  obtain ⟨g, off, ha, hg, hc⟩ := h3 j b hj
  exact ⟨g, off, ha, Nat.lt_of_lt_of_le hg k.size, (k.cell (p := ⟨g, off + j, none⟩) hg).trans hc⟩
theorem ceOwn {α : Type} {enc : α → Value} {w : World} {base : Nat} {t : TypeId} {v : Value} {l : List α} (h : w.ownsRow base t 1 v l.length (l.map enc)) : CeV enc w v l := by
  rcases id h.2 with ⟨rfl, h0⟩ | ⟨g, cap, cur, rfl, hb, hg, hn, hm, hsz, ht⟩
  · refine ⟨none, 0, by rw [h0], by omega, Nat.zero_le _, fun j b hj => ?_⟩
    have := (List.getElem?_eq_some_iff.1 hj).1; omega
  · refine ⟨_, cap, rfl, hn, hm, fun j b hj => ⟨g, 0, rfl, (Array.getElem?_eq_some_iff.1 hg).1, ?_⟩⟩
    have := World.ownsRow.cells h (g := g) rfl j (enc b) (by rw [List.getElem?_map, hj]; rfl)
    rwa [Addr.add_lit] at this
theorem ceNew {α : Type} {enc : α → Value} {w : World} {g : Nat} {t : TypeId} {l : List α} (h : w.heap[g]? = some (.cells (l.map enc).toArray t)) (hl : l.length ≤ 1000) : CeV enc w (.slice (some ⟨g, 0, none⟩) l.length l.length) l :=
  ⟨_, l.length, rfl, Nat.le_refl _, by unfold maxLen; omega, fun j b hj => ⟨g, 0, rfl, (Array.getElem?_eq_some_iff.1 h).1, by simp [World.cell?, h, hj]⟩⟩
set_option maxRecDepth 20000 in
set_option maxHeartbeats 2000000 in
theorem bools_l (v1 v2 : Value) (l m : List Bool) (w : World) (h1 : CeV Value.bool w v1 l) (h2 : CeV Value.bool w v2 m) :
    Calls Tryz.prog 15 #[v1, v2] w fun e w' => e = .returned (.bool (eqG (fun x y => x == y) l m)) ∧ Below w.heap.size w w' := by
  obtain ⟨a, c, rfl, hc1, hc2, h3⟩ := h1
  obtain ⟨a', c', rfl, hd1, hd2, h3'⟩ := h2
  unfold maxLen at hc2 hd2
  have H1 := hideR h3
  have H2 := hideR h3'
  clear h3 h3'
  by_cases hl : l.length = m.length
  · have bl : ((l.length : Int) != (m.length : Int)) = false := by simp [hl]
    have HL := hideR hl
    clear hl
    go_enter Tryz.func15, Tryz.ntmps15
    go_wp2_with fail
    go_loopw [5] (fun i wr => ∃ (j : Nat), j ≤ l.length ∧ i = .int .i64 (j : Int) ∧ Hid (eqG (fun x y => x == y) l m = eqG (fun x y => x == y) (l.drop j) (m.drop j)) ∧ Hid (Below w.heap.size w wr)) (fun i _ => l.length - (intOf i).toNat)
    case atStart => exact ⟨0, Nat.zero_le _, rfl, rfl, Below.refl _ _⟩
    case round =>
      obtain ⟨j, hj, rfl, hO, hB⟩ := hrel
      by_cases hlt : j < l.length
      · have hlt2 : j < m.length := by rw [← unhideR HL]; exact hlt
        obtain ⟨g, off, rfl, hg, q0⟩ := unhideR H1 j l[j] (by simp [hlt])
        obtain ⟨g', off', rfl, hg', q1⟩ := unhideR H2 j m[j] (by simp [hlt2])
        have ST := hideR (eqG_drop (fun x y => x == y) hlt hlt2)
        have Q0 : ∀ d, (wr.drewN d).cell? ⟨g, off + j, none⟩ = some (Value.bool l[j]) := fun d => ((unhideR hB).cell (p := ⟨g, off + j, none⟩) hg).trans q0
        have Q1 : ∀ d, (wr.drewN d).cell? ⟨g', off' + j, none⟩ = some (Value.bool m[j]) := fun d => ((unhideR hB).cell (p := ⟨g', off' + j, none⟩) hg').trans q1
        have R0 := Q0 0
        have R1 := Q1 0
        simp only [World.drewN_zero] at R0 R1
        clear q0 q1
        generalize l[j] = x at *
        generalize m[j] = y at *
        by_cases hxy : x = y
        · have bn : (x != y) = false := by simp [hxy]
          have be : (x == y) = true := by simp [hxy]
          have NX : Hid (eqG (fun x y => x == y) l m = eqG (fun x y => x == y) (l.drop (j + 1)) (m.drop (j + 1))) := by
            show _ = _
            rw [unhideR hO, unhideR ST, hxy]; simp
          clear hxy hO ST
          go_wp2_with fail
          go_quiet (fail)
          go_wp2_with fail
          exact ⟨⟨j + 1, by omega, by simp, NX, (unhideR hB).trans draws_b⟩, by simp [intOf]; omega⟩
        · have bn : (x != y) = true := by simpa using hxy
          have be : (x == y) = false := by simpa using hxy
          have NX : Hid (eqG (fun x y => x == y) l m = false) := by
            show _ = _
            have e : (x == y) = false := by simpa using hxy
            rw [unhideR hO, unhideR ST, e]; rfl
          clear hxy hO ST
          go_wp2_with fail
          go_quiet (fail)
          go_wp2_with fail
          go_ret
          exact ⟨ret_bool (unhideR NX).symm, (unhideR hB).trans draws_b⟩
      · obtain rfl : j = l.length := by omega
        have NX : Hid (eqG (fun x y => x == y) l m = true) := by
          show _ = _
          rw [unhideR hO, List.drop_eq_nil_of_le (Nat.le_refl _), List.drop_eq_nil_of_le (by rw [unhideR HL]; exact Nat.le_refl _)]; rfl
        go_wp2_with fail
        go_ret
        exact ⟨ret_bool (unhideR NX).symm, unhideR hB⟩
  · have bl : ((l.length : Int) != (m.length : Int)) = true := by rw [bne_iff_ne]; omega
    have NX := hideR (eqG_len (fun x y => x == y) l m hl)
    clear hl H1 H2
    generalize l.length = nl at *
    generalize m.length = nm at *
    go_enter Tryz.func15, Tryz.ntmps15
    go_wp2_with fail
    go_ret
    exact ⟨ret_bool (unhideR NX).symm, Below.refl _ _⟩
set_option maxRecDepth 20000 in
set_option maxHeartbeats 2000000 in
theorem ints_l (v1 v2 : Value) (l m : List Int) (w : World) (h1 : CeV (Value.int .i64) w v1 l) (h2 : CeV (Value.int .i64) w v2 m) :
    Calls Tryz.prog 18 #[v1, v2] w fun e w' => e = .returned (.bool (eqG (fun x y => x == y) l m)) ∧ Below w.heap.size w w' := by
  obtain ⟨a, c, rfl, hc1, hc2, h3⟩ := h1
  obtain ⟨a', c', rfl, hd1, hd2, h3'⟩ := h2
  unfold maxLen at hc2 hd2
  have H1 := hideR h3
  have H2 := hideR h3'
  clear h3 h3'
  by_cases hl : l.length = m.length
  · have bl : ((l.length : Int) != (m.length : Int)) = false := by simp [hl]
    have HL := hideR hl
    clear hl
    go_enter Tryz.func18, Tryz.ntmps18
    go_wp2_with fail
    go_loopw [5] (fun i wr => ∃ (j : Nat), j ≤ l.length ∧ i = .int .i64 (j : Int) ∧ Hid (eqG (fun x y => x == y) l m = eqG (fun x y => x == y) (l.drop j) (m.drop j)) ∧ Hid (Below w.heap.size w wr)) (fun i _ => l.length - (intOf i).toNat)
    case atStart => exact ⟨0, Nat.zero_le _, rfl, rfl, Below.refl _ _⟩
    case round =>
      obtain ⟨j, hj, rfl, hO, hB⟩ := hrel
      by_cases hlt : j < l.length
      · have hlt2 : j < m.length := by rw [← unhideR HL]; exact hlt
        obtain ⟨g, off, rfl, hg, q0⟩ := unhideR H1 j l[j] (by simp [hlt])
        obtain ⟨g', off', rfl, hg', q1⟩ := unhideR H2 j m[j] (by simp [hlt2])
        have ST := hideR (eqG_drop (fun x y => x == y) hlt hlt2)
        have Q0 : ∀ d, (wr.drewN d).cell? ⟨g, off + j, none⟩ = some ((Value.int .i64) l[j]) := fun d => ((unhideR hB).cell (p := ⟨g, off + j, none⟩) hg).trans q0
        have Q1 : ∀ d, (wr.drewN d).cell? ⟨g', off' + j, none⟩ = some ((Value.int .i64) m[j]) := fun d => ((unhideR hB).cell (p := ⟨g', off' + j, none⟩) hg').trans q1
        have R0 := Q0 0
        have R1 := Q1 0
        simp only [World.drewN_zero] at R0 R1
        clear q0 q1
        generalize l[j] = x at *
        generalize m[j] = y at *
        by_cases hxy : x = y
        · have bn : (x != y) = false := by simp [hxy]
          have be : (x == y) = true := by simp [hxy]
          have NX : Hid (eqG (fun x y => x == y) l m = eqG (fun x y => x == y) (l.drop (j + 1)) (m.drop (j + 1))) := by
            show _ = _
            rw [unhideR hO, unhideR ST, hxy]; simp
          clear hxy hO ST
          go_wp2_with fail
          go_quiet (fail)
          go_wp2_with fail
          exact ⟨⟨j + 1, by omega, by simp, NX, (unhideR hB).trans draws_b⟩, by simp [intOf]; omega⟩
        · have bn : (x != y) = true := by simpa using hxy
          have be : (x == y) = false := by simpa using hxy
          have NX : Hid (eqG (fun x y => x == y) l m = false) := by
            show _ = _
            have e : (x == y) = false := by simpa using hxy
            rw [unhideR hO, unhideR ST, e]; rfl
          clear hxy hO ST
          go_wp2_with fail
          go_quiet (fail)
          go_wp2_with fail
          go_ret
          exact ⟨ret_bool (unhideR NX).symm, (unhideR hB).trans draws_b⟩
      · obtain rfl : j = l.length := by omega
        have NX : Hid (eqG (fun x y => x == y) l m = true) := by
          show _ = _
          rw [unhideR hO, List.drop_eq_nil_of_le (Nat.le_refl _), List.drop_eq_nil_of_le (by rw [unhideR HL]; exact Nat.le_refl _)]; rfl
        go_wp2_with fail
        go_ret
        exact ⟨ret_bool (unhideR NX).symm, unhideR hB⟩
  · have bl : ((l.length : Int) != (m.length : Int)) = true := by rw [bne_iff_ne]; omega
    have NX := hideR (eqG_len (fun x y => x == y) l m hl)
    clear hl H1 H2
    generalize l.length = nl at *
    generalize m.length = nm at *
    go_enter Tryz.func18, Tryz.ntmps18
    go_wp2_with fail
    go_ret
    exact ⟨ret_bool (unhideR NX).symm, Below.refl _ _⟩
end Go.Proofs.YtamefbpdnblbdaaGreatDoor.Nl

namespace Go.Proofs.YtamefbpdnblbdaaGreatDoor.Nl
open Go.RowKit Go.Shelf Go.Proofs.YtamefbpdnblbdaaGreatDoor.T Go.Proofs.YtamefbpdnblbdaaGreatDoor.R Go.Proofs.YtamefbpdnblbdaaGreatDoor.F
set_option linter.unusedVariables false
set_option linter.unusedSimpArgs false

theorem aw9_bytes : U.isBytes aw9 := by
  intro z hz
  simp [aw9] at hz
  omega
theorem aw9_all : allL aw9g = [false, true, false] := by kernel_rfl
theorem aw9_emp : emptyB aw9g [] = true := by kernel_rfl
theorem rise_eq : ∀ {l m : List Int}, l.Pairwise (· < ·) → m.Pairwise (· < ·) → (∀ x, x ∈ l ↔ x ∈ m) → l = m := by
  intro l
  induction l with
  | nil =>
    intro m _ _ h
    cases m with
    | nil => rfl
    | cons y m => exact absurd ((h y).2 List.mem_cons_self) (by simp)
  | cons x l ih =>
    intro m hl hm h
    cases m with
    | nil => exact absurd ((h x).1 List.mem_cons_self) (by simp)
    | cons y m =>
      obtain ⟨hx, hl'⟩ := List.pairwise_cons.1 hl
      obtain ⟨hy, hm'⟩ := List.pairwise_cons.1 hm
      have e : x = y := by
        rcases List.mem_cons.1 ((h x).1 List.mem_cons_self) with h1 | h1
        · exact h1
        · rcases List.mem_cons.1 ((h y).2 List.mem_cons_self) with h2 | h2
          · exact h2.symm
          · have := hx y h2; have := hy x h1; omega
      subst e
      congr 1
      refine ih hl' hm' fun z => ?_
      have hz := h z
      simp only [List.mem_cons] at hz
      constructor
      · intro h1
        rcases hz.1 (.inr h1) with h2 | h2
        · subst h2; have := hx z h1; omega
        · exact h2
      · intro h1
        rcases hz.2 (.inr h1) with h2 | h2
        · subst h2; have := hy z h1; omega
        · exact h2
theorem aw9_lef {L : List Int} (h1 : L.Pairwise (· < ·)) (h2 : ∀ x, x ∈ L ↔ leftP aw9g 0 x) : L = [1, 2] := by
  refine rise_eq h1 (by simp) fun x => (h2 x).trans ?_
  have hn : nuL aw9g.1 = [false, true, false] := by kernel_rfl
  unfold leftP
  rw [hn]
  constructor
  · rintro ⟨-, i, p, a, e, hp, ha, hx⟩
    obtain rfl : i = 0 := by omega
    have hp' : p = ([[(2, [], 1), (2, [], 2)]], 0, []) := by simpa [aw9g] using hp.symm
    subst hp'
    simp at ha
    subst ha
    have e2 : lefL [false, true, false] [(2, [], 1), (2, [], 2)] = [1, 2] := by decide
    rw [e2] at hx
    exact hx
  · intro hx
    refine ⟨aw9_may, 0, ([[(2, [], 1), (2, [], 2)]], 0, []), [(2, [], 1), (2, [], 2)], rfl, rfl, by simp, ?_⟩
    have e2 : lefL [false, true, false] [(2, [], 1), (2, [], 2)] = [1, 2] := by decide
    rw [e2]; exact hx
set_option maxRecDepth 20000 in
set_option maxHeartbeats 8000000 in
theorem awake9_l (w : World) : Calls Tryz.prog 13 #[] w fun e w' => e = .returned (.bool true) ∧ Below w.heap.size w w' := by
  have CF := hideR (fun W => file_any ⟨#[97, 32, 61, 32, 98, 32, 99, 59, 32, 98, 32, 61, 32, 59, 32, 99, 32, 61, 32, 34, 120, 34, 59]⟩ aw9 (St.of aw9_bytes) (by show 23 ≤ 100000000; omega) W)
  go_enter Tryz.func13, Tryz.ntmps13
  go_wp2_with fail
  refine (unhideR CF _).mono ?_
  clear CF
  rintro e w1 ⟨fr, b1⟩
  obtain ⟨v1, rfl, fv⟩ := file_is fr aw9_file
  have CO := hideR (fun W (bW : Below w1.heap.size w1 W) => of_file 4 (w := W) (D := New w w1) (fv.kept (fun g hg => ⟨hg, bW.block g hg.2⟩) (KR.of bW)) (fun g hg => Nat.lt_of_lt_of_le hg.2 bW.size) (fok_yes aw9_fok))
  obtain ⟨aK, cK, aR, cR, rfl, -⟩ := fv
  have el : ((aw9.length : Nat) : Int) = 23 := rfl
  have n0 : aw9f.1.length = 0 := rfl
  have n1 : aw9f.2.length = 3 := rfl
  rw [n0, n1] at CO ⊢
  rw [el]
  clear fr n0 n1 el
  have HB1 := hideR b1
  have s1 := b1.size
  clear b1
  go_wp2_with fail
  refine (unhideR CO _ (Below.new1 _)).mono ?_
  clear CO
  rintro e w2 ⟨or, b2⟩
  obtain ⟨v2, rfl, gv⟩ := of_is or aw9_flat
  have B2 : Below w1.heap.size w1 w2 := nthen (Below.new1 _) b2
  have HB2 := hideR (nthen (unhideR HB1) B2)
  have gm := grM_of gv (fun a n c l h => ⟨h.2.1, h.2.2.1⟩)
  have CA := hideR (fun W (bW : Below w2.heap.size w2 W) => nAll_l v2 aw9g W (gm.later bW))
  have CL := hideR (fun W (bW : Below w2.heap.size w2 W) => nLefts_yes v2 aw9g 0 ([[(2, [], 1), (2, [], 2)]], 0, []) W (gm.later bW) aw9_may rfl)
  have CE := hideR (fun W (bW : Below w2.heap.size w2 W) => nEmpty_l v2 nilR aw9g [] W (gm.later bW) (SyL.nil _ _))
  rw [aw9_all] at CA
  rw [aw9_emp] at CE
  obtain ⟨a, c, aK2, cK2, rfl, -⟩ := gm
  have m1 : aw9g.1.length = 3 := rfl
  have m0 : aw9g.2.length = 0 := rfl
  rw [m0, m1] at CA CL CE ⊢
  clear or gv b2 B2 m0 m1
  rw [show ((0 : Nat) : Int) = 0 from rfl] at CL
  go_wp2_with fail
  refine (unhideR CA _ (Below.new1 _)).mono ?_
  clear CA
  rintro e w3 ⟨v3, rfl, hv3, b3⟩
  have hg3 := nkept b3
  have B3 := hideR (nthen (Below.new1 (w := w2) _) b3)
  have ce3 := ceOwn (enc := Value.bool) hv3
  obtain ⟨a3, c3, rfl, -⟩ := id ce3
  have l3 : ([false, true, false] : List Bool).length = 3 := rfl
  rw [l3] at ce3 ⊢
  have bn3 : Below w3.heap.size w3 (w3.alloc (.cells #[.bool false, .bool true, .bool false] 4)) := Below.new1 _
  have CB := hideR (bools_l _ _ [false, true, false] [false, true, false] (w3.alloc (.cells #[.bool false, .bool true, .bool false] 4)) (ce3.later bn3) (ceNew (enc := Value.bool) (l := [false, true, false]) (heap_alloc_new w3 _) (by simp)))
  rw [show eqG (fun x y => x == y) [false, true, false] [false, true, false] = true from rfl, l3] at CB
  clear ce3 hv3 l3 b3
  go_wp2_with fail
  refine (unhideR CB).mono ?_
  clear CB
  rintro e w4 ⟨rfl, b4⟩
  have hg4 : w4.heap[w2.heap.size]? = some (.cells #[.slice a 3 c, .slice aK2 0 cK2] 32) := ((nthen bn3 b4).block _ (Array.getElem?_eq_some_iff.1 hg3).1).trans hg3
  have B4 := hideR (nthen (unhideR B3) (nthen bn3 b4))
  obtain ⟨y0, y1, -, -⟩ := ncells2 hg4
  clear hg3 bn3 b4 B3
  go_wp2_with fail
  refine (unhideR CL _ (unhideR B4)).mono ?_
  clear CL
  rintro e w5 ⟨v5, L, rfl, hv5, hp5, hm5, b5⟩
  obtain rfl := aw9_lef hp5 hm5
  have ce5 := ceOwn (enc := Value.int .i64) hv5
  obtain ⟨a5, c5, rfl, -⟩ := id ce5
  have l5 : ([1, 2] : List Int).length = 2 := rfl
  rw [l5] at ce5 ⊢
  have hg5 := (b5.block _ (Array.getElem?_eq_some_iff.1 hg4).1).trans hg4
  have B5 := hideR (nthen (unhideR B4) b5)
  have bn5 : Below w5.heap.size w5 (w5.alloc (.cells #[.int .i64 1, .int .i64 2] 3)) := Below.new1 _
  have CI := hideR (ints_l _ _ [1, 2] [1, 2] (w5.alloc (.cells #[.int .i64 1, .int .i64 2] 3)) (ce5.later bn5) (ceNew (enc := Value.int .i64) (l := [1, 2]) (heap_alloc_new w5 _) (by simp)))
  rw [show eqG (fun x y => x == y) ([1, 2] : List Int) [1, 2] = true from rfl, l5] at CI
  clear ce5 hv5 hp5 hm5 l5 b5 y0 y1 hg4 B4
  go_wp2_with fail
  refine (unhideR CI).mono ?_
  clear CI
  rintro e w6 ⟨rfl, b6⟩
  have hg6 := ((nthen bn5 b6).block _ (Array.getElem?_eq_some_iff.1 hg5).1).trans hg5
  have B6 := hideR (nthen (unhideR B5) (nthen bn5 b6))
  obtain ⟨y0, y1, -, -⟩ := ncells2 hg6
  clear hg5 bn5 b6 B5 hg6
  go_wp2_with fail
  refine (unhideR CE _ (unhideR B6)).mono ?_
  clear CE
  rintro e w7 ⟨rfl, b7⟩
  go_wp2_with fail
  go_ret
  exact ⟨rfl, nthen (unhideR HB2) (nthen (unhideR B6) b7)⟩
end Go.Proofs.YtamefbpdnblbdaaGreatDoor.Nl

namespace Go.Proofs.YtamefbpdnblbdaaGreatDoor.Nl
open Go.RowKit Go.Shelf Go.Proofs.YtamefbpdnblbdaaGreatDoor.T Go.Proofs.YtamefbpdnblbdaaGreatDoor.R Go.Proofs.YtamefbpdnblbdaaGreatDoor.F
set_option linter.unusedVariables false
set_option linter.unusedSimpArgs false

def isS (x : Int) (s : SY) : Bool := s.1 == 2 && s.2.2 == x
theorem any_take {α : Type} (f : α → Bool) {l : List α} {k : Nat} (h : k < l.length) : (l.take (k + 1)).any f = ((l.take k).any f || f l[k]) := by
  rw [List.take_succ_eq_append_getElem h, List.any_append]; simp
structure LfF (w : World) (kg : Nat) (gp off i nP c nK cK : Nat) (aK aA : Option Addr) (cA : Nat) (A : List (List SY)) (aL : Option Addr) (cL : Nat) (L : List Int) : Prop where
  bx : w.cell? ⟨kg, 0, none⟩ = some (.slice (some ⟨gp, off, none⟩) nP c)
  ps : w.cell? ⟨gp, off + 3 * i, none⟩ = some (.slice aA A.length cA)
  al : AltM w (.slice aA A.length cA) A
  le : CeV (Value.int .i64) w (.slice aL L.length cL) L
theorem LfF.later {w X : World} {kg gp off i nP c nK cK : Nat} {aK aA : Option Addr} {cA : Nat} {A : List (List SY)} {aL : Option Addr} {cL : Nat} {L : List Int} (h : LfF w kg gp off i nP c nK cK aK aA cA A aL cL L) (k : Below w.heap.size w X) : LfF X kg gp off i nP c nK cK aK aA cA A aL cL L :=
  ⟨(k.cell (p := ⟨kg, 0, none⟩) (block_lt' h.bx)).trans h.bx, (k.cell (p := ⟨gp, off + 3 * i, none⟩) (block_lt' h.ps)).trans h.ps, h.al.later k, h.le.later k⟩
theorem AltM.get {w : World} {a : Option Addr} {n c : Nat} {A : List (List SY)} (h : AltM w (.slice a n c) A) {k : Nat} {l : List SY} (hk : A[k]? = some l) : ∃ g off x cc, a = some ⟨g, off, none⟩ ∧ g < w.heap.size ∧ w.cell? ⟨g, off + k, none⟩ = some (.slice x l.length cc) ∧ SyM w (.slice x l.length cc) l ∧ l.length ≤ cc ∧ cc ≤ maxLen := by
  obtain ⟨a', c', e, -, -, h3⟩ := h
  injection e with e1 e2 e3
  subst e1
  obtain ⟨g, off, u, ha, hg, q0, hs⟩ := h3 k l hk
  obtain ⟨x, cc, rfl, h1, h2, -⟩ := id hs
  exact ⟨g, off, x, cc, ha, hg, q0, hs, h1, h2⟩
theorem SyM.get {w : World} {a : Option Addr} {n c : Nat} {l : List SY} (h : SyM w (.slice a n c) l) {j : Nat} {s : SY} (hj : l[j]? = some s) : ∃ g off, a = some ⟨g, off, none⟩ ∧ g < w.heap.size ∧ w.cell? ⟨g, off + 3 * j, none⟩ = some (.int .i64 s.1) ∧ w.cell? ⟨g, off + 3 * j + 2, none⟩ = some (.int .i64 s.2.2) := by
  obtain ⟨a', c', e, -, -, h3⟩ := h
  injection e with e1 e2 e3
  subst e1
  obtain ⟨g, off, x, k, ha, hg, q0, q1, q2, -⟩ := h3 j s hj
  exact ⟨g, off, ha, hg, q0, q2⟩
theorem CeV.get {α : Type} {enc : α → Value} {w : World} {a : Option Addr} {n c : Nat} {l : List α} (h : CeV enc w (.slice a n c) l) {j : Nat} {x : α} (hj : l[j]? = some x) : ∃ g off, a = some ⟨g, off, none⟩ ∧ g < w.heap.size ∧ w.cell? ⟨g, off + j, none⟩ = some (enc x) := by
  obtain ⟨a', c', e, -, -, h3⟩ := h
  injection e with e1 e2 e3
  subst e1
  exact h3 j x hj
end Go.Proofs.YtamefbpdnblbdaaGreatDoor.Nl

namespace Go.Proofs.YtamefbpdnblbdaaGreatDoor.Nl
open Go.RowKit Go.Shelf Go.Proofs.YtamefbpdnblbdaaGreatDoor.T Go.Proofs.YtamefbpdnblbdaaGreatDoor.R Go.Proofs.YtamefbpdnblbdaaGreatDoor.F
set_option linter.unusedVariables false
set_option linter.unusedSimpArgs false

theorem one_sy (W : World) (k n : Int) (t : TypeId) (hn : fits n) : SyL (W.alloc (.cells #[.int .i64 k, .slice none 0 0, .int .i64 n] t)) (W.alloc (.cells #[.int .i64 k, .slice none 0 0, .int .i64 n] t)).heap.size (.slice (some ⟨W.heap.size, 0, none⟩) 1 1) [(k, [], n)] := by
  refine ⟨some ⟨W.heap.size, 0, none⟩, 1, rfl, by simp, by unfold maxLen; omega, fun j s hj => ?_⟩
  have hj0 : j = 0 := by have := (List.getElem?_eq_some_iff.1 hj).1; simpa using this
  subst hj0
  injection hj with hj
  subst hj
  have G := heap_alloc_new W (.cells #[.int .i64 k, .slice none 0 0, .int .i64 n] t)
  obtain ⟨⟨x0, x1, x2⟩, -⟩ := cells3 G
  exact ⟨hn, W.heap.size, 0, none, 0, 0, rfl, by simp, x0, x1, x2⟩
set_option maxRecDepth 20000 in
set_option maxHeartbeats 16000000 in
theorem nullLeast_walk (v : Value) (g : GR) (n : Int) (w : World) (h : GrM w v g) (hf : ∀ p ∈ g.1, ∀ l ∈ p.1, ∀ s ∈ l, fits s.2.2) :
    Calls Tryz.prog 5 #[v, .int .i64 n] w fun e w' => e = .returned (.bool true) ∧ Below w.heap.size w w' := by
  have CA := hideR (fun W => awake9_l W)
  have CM := hideR (fun W (bW : Below w.heap.size w W) => fMayM_l v g W (h.later bW))
  have CL := hideR (fun W (bW : Below w.heap.size w W) => nAll_l v g W (h.later bW))
  have CE := hideR (fun lv l W (bW : Below w.heap.size w W) (hl : SyL W W.heap.size lv l) => nEmpty_l v lv g l W (h.later bW) hl)
  obtain ⟨a, c, aK, cK, rfl, hp, -⟩ := id h
  have CF := hideR (fun W (bW : Below w.heap.size w W) => few_l a c g.2.length cK aK g.1 W ((hp.later bW).prl hf))
  obtain ⟨P, K⟩ := g
  simp only at CM CF CL CE hp hf ⊢
  obtain ⟨a0, c0, e0, hc1, hc2, h3⟩ := id hp
  injection e0 with e1 e2 e3
  subst e1; subst e3
  unfold maxLen at hc2
  have H3 := hideR h3
  have HF := hideR hf
  generalize K.length = nK at *
  clear h hp h3 e2 hf
  go_enter Tryz.func5, Tryz.ntmps5
  go_wp2_with fail
  have G0 := heap_alloc_new w (.cells #[.slice a P.length c, .slice aK nK cK] 32)
  refine (unhideR CA _).mono ?_
  clear CA
  rintro e w1 ⟨rfl, b1⟩
  have G1 := (b1.block _ (Array.getElem?_eq_some_iff.1 G0).1).trans G0
  obtain ⟨y0, y1, -, -⟩ := ncells2 G1
  have B1 := hideR (nthen (Below.new1 _) b1)
  clear b1 G0
  go_wp2_with fail
  refine (unhideR CF _ (unhideR B1)).mono ?_
  clear CF
  rintro e w2 ⟨⟨r, rfl⟩, b2⟩
  have G2 := (b2.block _ (Array.getElem?_eq_some_iff.1 G1).1).trans G1
  have B2 := hideR (nthen (unhideR B1) b2)
  clear b2 G1 B1 y0 y1
  obtain ⟨y0, y1, -, -⟩ := ncells2 G2
  go_wp2_with fail
  refine (unhideR CL _ (unhideR B2)).mono ?_
  clear CL
  rintro e w3 ⟨vB, rfl, hv, b3⟩
  have G3 := (b3.block _ (Array.getElem?_eq_some_iff.1 G2).1).trans G2
  have B3 := hideR (nthen (unhideR B2) b3)
  clear b3 G2 B2 y0 y1
  obtain ⟨y0, y1, -, -⟩ := ncells2 G3
  have HV := hideR hv
  clear hv
  cases r with
  | false =>
    go_wp2_with fail
    go_ret
    exact ⟨rfl, unhideR B3⟩
  | true =>
    go_wp2_with fail
    refine (unhideR CM _ (unhideR B3)).mono ?_
    rintro e w4 ⟨rfl, b4⟩
    have G4 := (b4.block _ (Array.getElem?_eq_some_iff.1 G3).1).trans G3
    have HV4 := BoV.later (unhideR HV) b4
    have B4 := hideR (nthen (unhideR B3) b4)
    clear b4 G3 B3 y0 y1 HV
    obtain ⟨y0, y1, -, -⟩ := ncells2 G4
    unfold allL at HV4
    simp only at HV4
    cases hg : gramB P with
    | false =>
      rw [hg] at CM HV4
      rw [if_neg (by simp)] at HV4
      obtain ⟨aB, cB, rfl, -, -, -⟩ := HV4.at
      clear HV4
      simp only [List.length_nil]
      go_wp2_with fail
      refine (unhideR CM _ (unhideR B4)).mono ?_
      rintro e w5 ⟨rfl, b5⟩
      have B5 := hideR (nthen (unhideR B4) b5)
      go_wp2_with fail
      go_ret
      exact ⟨rfl, unhideR B5⟩
    | true =>
      rw [hg] at CM HV4
      rw [if_pos rfl] at HV4
      obtain ⟨aB, cB, rfl, hB1, hB2, hB3⟩ := HV4.at
      have hln : (nuL P).length = P.length := nu_len P
      rw [hln] at hB1
      have HB3 := hideR hB3
      unfold maxLen at hB2
      clear hB3 HV4
      simp only [hln]
      clear hln
      by_cases h0 : n < 0
      · have bn : decide (n < 0) = true := decide_eq_true h0
        clear h0
        go_wp2_with fail
        refine (unhideR CM _ (unhideR B4)).mono ?_
        rintro e w5 ⟨rfl, b5⟩
        have B5 := hideR (nthen (unhideR B4) b5)
        go_wp2_with fail
        go_ret
        exact ⟨rfl, unhideR B5⟩
      · obtain ⟨i, rfl⟩ := Int.eq_ofNat_of_zero_le (show 0 ≤ n by omega)
        have bn : decide ((i : Int) < 0) = false := decide_eq_false h0
        clear h0
        by_cases hn : P.length ≤ i
        · have bm : decide ((P.length : Int) ≤ (i : Int)) = true := decide_eq_true (by omega)
          have bm2 : decide (P.length ≤ i) = true := decide_eq_true hn
          clear hn
          go_wp2_with fail
          refine (unhideR CM _ (unhideR B4)).mono ?_
          rintro e w5 ⟨rfl, b5⟩
          have B5 := hideR (nthen (unhideR B4) b5)
          go_wp2_with fail
          go_ret
          exact ⟨rfl, unhideR B5⟩
        · have bm : decide ((P.length : Int) ≤ (i : Int)) = false := decide_eq_false (by omega)
          have bm2 : decide (P.length ≤ i) = false := decide_eq_false hn
          obtain ⟨p, hip⟩ : ∃ p, P[i]? = some p := ⟨P[i], by simp⟩
          obtain ⟨bi, hbi⟩ : ∃ b, (nuL P)[i]? = some b := ⟨(nuL P)[i]'(by rw [nu_len]; omega), by simp⟩
          obtain ⟨gB, rfl, hgB, z0⟩ := unhideR HB3 i bi hbi
          obtain ⟨gp, off, u, u2, rfl, hgp, q0, q1, q2, hA, -⟩ := unhideR H3 i p hip
          have SOME : Hid (p.1.any (nulA (nuL P)) = bi) := by
            have e := nu_fix P
            have e2 : (stepL P (nuL P))[i]? = some (p.1.any (nulA (nuL P))) := by unfold stepL; rw [List.getElem?_map, hip]; rfl
            rw [e, hbi] at e2
            exact (Option.some.inj e2).symm
          have HNON : Hid (∀ s : SY, s.1 = 2 → s.2.2 = (i : Int) → emptyB (P, K) [s] = bi) := by
            intro s h1 h2
            unfold emptyB nulA nulS
            simp only [hg, h1, h2, List.all_cons, List.all_nil, Int.toNat_natCast, Bool.and_true, Bool.true_and]
            rw [List.getD_eq_getElem?_getD, hbi]
            simp
          have HBYT : Hid (∀ s : SY, s.1 = 0 → emptyB (P, K) [s] = false) := by
            intro s h1
            unfold emptyB nulA nulS
            simp [h1]
          have hiL : i < P.length := by omega
          have i3 : i * 3 = 3 * i := by omega
          have HFP := hideR (unhideR HF p (List.mem_of_getElem? hip))
          clear H3 hip hn hbi HB3 HF
          obtain ⟨aA, cA, rfl, hA1, hA2, -⟩ := id hA
          unfold maxLen at hA2
          obtain ⟨Fbx, Fbx1, -, -⟩ := ncells2 G4
          have Fps : w4.cell? ⟨gp, off + 3 * i, none⟩ = some (.slice aA p.1.length cA) := ((unhideR B4).cell (p := ⟨gp, off + 3 * i, none⟩) hgp).trans q0
          have HAL := hideR (hA.later (unhideR B4))
          clear q0 q1 q2 hA y1
          go_wp2_with fail
          go_loopw [8, 9] (fun b i wr => ∃ (bb : Bool) (k : Nat), k ≤ p.1.length ∧ b = .bool bb ∧ i = .int .i64 (k : Int) ∧ Hid (bb = (p.1.take k).any (nulA (nuL P))) ∧ Hid (Below w4.heap.size w4 wr)) (fun _ i _ => p.1.length - (intOf i).toNat)
          case atStart => exact ⟨false, 0, Nat.zero_le _, rfl, rfl, rfl, Below.refl _ _⟩
          case round =>
            obtain ⟨bb, k, hk, rfl, rfl, hbb, hB1⟩ := hrel
            have lw : w.heap.size < w4.heap.size := block_lt' Fbx
            have lp : gp < w4.heap.size := block_lt' Fps
            by_cases hlt1 : k < p.1.length
            · have hkA : p.1[k]? = some p.1[k] := by simp [hlt1]
              obtain ⟨gA, oA, aS, cS, rfl, hgA, a0, hSy, hS, hsc⟩ := (unhideR HAL).get hkA
              have TK : Hid ((p.1.take (k + 1)).any (nulA (nuL P)) = ((p.1.take k).any (nulA (nuL P)) || nulA (nuL P) p.1[k])) := any_take _ hlt1
              have HFL := hideR (unhideR HFP p.1[k] (List.getElem_mem hlt1))
              have HSy := hideR hSy
              have EQE : Hid (emptyB (P, K) p.1[k] = nulA (nuL P) p.1[k]) := by show _ = _; unfold emptyB; simp only [hg, Bool.true_and]
              unfold maxLen at hsc
              clear hkA hSy
              generalize p.1[k] = l at *
              have bx : wr.cell? ⟨w.heap.size, 0, none⟩ = some (.slice (some ⟨gp, off, none⟩) P.length c) := ((unhideR hB1).cell (p := ⟨w.heap.size, 0, none⟩) lw).trans Fbx
              have bx1 : wr.cell? ⟨w.heap.size, 1, none⟩ = some (.slice aK nK cK) := ((unhideR hB1).cell (p := ⟨w.heap.size, 1, none⟩) lw).trans Fbx1
              have ps : wr.cell? ⟨gp, off + 3 * i, none⟩ = some (.slice (some ⟨gA, oA, none⟩) p.1.length cA) := ((unhideR hB1).cell (p := ⟨gp, off + 3 * i, none⟩) lp).trans Fps
              have al : wr.cell? ⟨gA, oA + k, none⟩ = some (.slice aS l.length cS) := ((unhideR hB1).cell (p := ⟨gA, oA + k, none⟩) hgA).trans a0
              cases bb with
              | true =>
                have NY : Hid (true = (p.1.take (k + 1)).any (nulA (nuL P))) := by show _ = _; rw [unhideR TK, ← unhideR hbb]; rfl
                clear TK hbb
                go_wp2_with fail
                go_quiet (fail)
                go_wp2_with fail
                exact ⟨⟨true, k + 1, by omega, rfl, by simp, NY, (unhideR hB1).trans draws_b⟩, by simp [intOf]; omega⟩
              | false =>
                have NY : Hid (nulA (nuL P) l = (p.1.take (k + 1)).any (nulA (nuL P))) := by show _ = _; rw [unhideR TK, ← unhideR hbb]; rfl
                have hbw := unhideR hB1
                have hsz := hbw.size
                have CE2 := hideR (fun W (bW : Below wr.heap.size wr W) => unhideR CE (.slice aS l.length cS) l W (nthen (unhideR B4) (hbw.trans (bW.mono hsz))) (((unhideR HSy).later (hbw.trans (bW.mono hsz))).syl (unhideR HFL)))
                rw [unhideR EQE] at CE2
                clear TK hbb EQE HSy HFL a0
                generalize nulA (nuL P) l = nb at *
                have ll : w.heap.size < wr.heap.size := by omega
                have ll2 : gp < wr.heap.size := by omega
                have ll3 : gA < wr.heap.size := by omega
                go_wp2_with fail
                go_region_held3 (fun w' => w'.cell? ⟨w.heap.size, 0, none⟩ = some (.slice (some ⟨gp, off, none⟩) P.length c) ∧ w'.cell? ⟨w.heap.size, 1, none⟩ = some (.slice aK nK cK) ∧ w'.cell? ⟨gp, off + 3 * i, none⟩ = some (.slice (some ⟨gA, oA, none⟩) p.1.length cA) ∧ w'.cell? ⟨gA, oA + k, none⟩ = some (.slice aS l.length cS))
                  (first
                    | exact ⟨bx, bx1, ps, al⟩
                    | exact ⟨(b5.cell ll).trans bx, (b5.cell ll).trans bx1, (b5.cell ll2).trans ps, (b5.cell ll3).trans al⟩)
                  ((go_at_call 22; refine (unhideR CE2 _ draws_b).mono ?_; rintro e w5 ⟨rfl, b5⟩))
                all_goals (go_wp2_with fail)
                all_goals exact ⟨⟨nb, k + 1, by omega, rfl, by simp, NY, hbw.trans (draws_b.trans (b5.mono (by have := hbw.size; show _ ≤ wr.heap.size; omega)))⟩, by simp [intOf]; omega⟩
            · obtain rfl : k = p.1.length := by omega
              have bbt : bb = bi := by rw [unhideR hbb, List.take_length]; exact unhideR SOME
              subst bbt
              have bx : wr.cell? ⟨w.heap.size, 0, none⟩ = some (.slice (some ⟨gp, off, none⟩) P.length c) := ((unhideR hB1).cell (p := ⟨w.heap.size, 0, none⟩) lw).trans Fbx
              have bx1 : wr.cell? ⟨w.heap.size, 1, none⟩ = some (.slice aK nK cK) := ((unhideR hB1).cell (p := ⟨w.heap.size, 1, none⟩) lw).trans Fbx1
              have ps : wr.cell? ⟨gp, off + 3 * i, none⟩ = some (.slice aA p.1.length cA) := ((unhideR hB1).cell (p := ⟨gp, off + 3 * i, none⟩) lp).trans Fps
              have zb : wr.cell? ⟨gB, i, none⟩ = some (.bool bb) := ((unhideR hB1).cell (p := ⟨gB, i, none⟩) hgB).trans z0
              have hbw := unhideR hB1
              have hsz := hbw.size
              have hW : Hid (∀ W, Below wr.heap.size wr W → Below w.heap.size w W) := fun W bW => nthen (unhideR B4) (hbw.trans (bW.mono hsz))
              have CE1 := hideR (fun W t (bW : Below wr.heap.size wr W) => unhideR CE (.slice (some ⟨W.heap.size, 0, none⟩) 1 1) [(2, [], (i : Int))] (W.alloc (.cells #[.int .i64 2, .slice none 0 0, .int .i64 (i : Int)] t)).drew (unhideR hW _ (nthen (nthen bW (Below.new1 _)) (draws_b (k := 1)))) (one_sy W 2 (i : Int) t (by unfold fits; omega)))
              have CE0 := hideR (fun W t (bW : Below wr.heap.size wr W) => unhideR CE (.slice (some ⟨W.heap.size, 0, none⟩) 1 1) [(0, [], 0)] (W.alloc (.cells #[.int .i64 0, .slice none 0 0, .int .i64 0] t)) (unhideR hW _ (nthen bW (Below.new1 _))) (one_sy W 0 0 t (by unfold fits; omega)))
              have CE0d := hideR (fun W t (bW : Below wr.heap.size wr W) => unhideR CE (.slice (some ⟨W.heap.size, 0, none⟩) 1 1) [(0, [], 0)] (W.alloc (.cells #[.int .i64 0, .slice none 0 0, .int .i64 0] t)).drew (unhideR hW _ (nthen (nthen bW (Below.new1 _)) (draws_b (k := 1)))) (one_sy W 0 0 t (by unfold fits; omega)))
              rw [unhideR HNON (2, [], (i : Int)) rfl rfl] at CE1
              rw [unhideR HBYT (0, [], 0) rfl] at CE0 CE0d
              have ll : w.heap.size < wr.heap.size := by omega
              have ll2 : gB < wr.heap.size := by omega
              clear hbb SOME CE CM HNON HBYT HFP HAL y0 G4 Fbx Fbx1 Fps z0
              have KS := hideR (fun W (bW : Below wr.heap.size wr W) => (⟨(bW.cell ll).trans bx, (bW.cell ll).trans bx1, (bW.cell ll2).trans zb⟩ : W.cell? ⟨w.heap.size, 0, none⟩ = some (.slice (some ⟨gp, off, none⟩) P.length c) ∧ W.cell? ⟨w.heap.size, 1, none⟩ = some (.slice aK nK cK) ∧ W.cell? ⟨gB, i, none⟩ = some (.bool bb)))
              cases bb with
              | false =>
                go_wp2_with fail
                go_region_held3 (fun w' => w'.cell? ⟨w.heap.size, 0, none⟩ = some (.slice (some ⟨gp, off, none⟩) P.length c) ∧ w'.cell? ⟨w.heap.size, 1, none⟩ = some (.slice aK nK cK) ∧ w'.cell? ⟨gB, i, none⟩ = some (.bool false))
                  (first
                    | exact unhideR KS _ bw6
                    | exact unhideR KS _ bw5
                    | exact unhideR KS _ (nthen bw5 (Below.new1 _))
                    | exact unhideR KS _ draws_b
                    | exact unhideR KS _ (nthen draws_b (Below.new1 _)))
                  ((go_at_call 22; first
                    | (refine (unhideR CE0 _ _ bw5).mono ?_; rintro e w6 ⟨rfl, b6⟩; have bw6 := nthen (nthen bw5 (Below.new1 _)) b6)
                    | (refine (unhideR CE0d _ _ bw5).mono ?_; rintro e w6 ⟨rfl, b6⟩; have bw6 := nthen (nthen (nthen bw5 (Below.new1 _)) (draws_b (k := 1))) b6)
                    | (refine (unhideR CE1 _ _ (Below.refl _ _)).mono ?_; rintro e w5 ⟨rfl, b5⟩; have bw5 := nthen (nthen (Below.new1 _) (draws_b (k := 1))) b5)))
                all_goals (go_wp2_with fail)
                all_goals go_ret
                all_goals first
                  | exact ⟨rfl, nthen (unhideR B4) (hbw.trans (bw6.mono hsz))⟩
                  | exact ⟨rfl, nthen (unhideR B4) (hbw.trans ((nthen bw6 (draws_b (k := 1))).mono hsz))⟩
              | true =>
                go_wp2_with fail
                go_region_held3 (fun w' => w'.cell? ⟨w.heap.size, 0, none⟩ = some (.slice (some ⟨gp, off, none⟩) P.length c) ∧ w'.cell? ⟨w.heap.size, 1, none⟩ = some (.slice aK nK cK) ∧ w'.cell? ⟨gB, i, none⟩ = some (.bool true))
                  (first
                    | exact unhideR KS _ bw6
                    | exact unhideR KS _ bw5
                    | exact unhideR KS _ (nthen bw5 (Below.new1 _))
                    | exact unhideR KS _ draws_b
                    | exact unhideR KS _ (nthen draws_b (Below.new1 _)))
                  ((go_at_call 22; first
                    | (refine (unhideR CE0 _ _ bw5).mono ?_; rintro e w6 ⟨rfl, b6⟩; have bw6 := nthen (nthen bw5 (Below.new1 _)) b6)
                    | (refine (unhideR CE0d _ _ bw5).mono ?_; rintro e w6 ⟨rfl, b6⟩; have bw6 := nthen (nthen (nthen bw5 (Below.new1 _)) (draws_b (k := 1))) b6)
                    | (refine (unhideR CE1 _ _ (Below.refl _ _)).mono ?_; rintro e w5 ⟨rfl, b5⟩; have bw5 := nthen (nthen (Below.new1 _) (draws_b (k := 1))) b5)))
                all_goals (go_wp2_with fail)
                all_goals go_ret
                all_goals first
                  | exact ⟨rfl, nthen (unhideR B4) (hbw.trans (bw6.mono hsz))⟩
                  | exact ⟨rfl, nthen (unhideR B4) (hbw.trans ((nthen bw6 (draws_b (k := 1))).mono hsz))⟩
end Go.Proofs.YtamefbpdnblbdaaGreatDoor.Nl

