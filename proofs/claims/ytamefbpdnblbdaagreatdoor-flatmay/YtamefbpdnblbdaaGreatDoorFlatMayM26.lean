/- Parts of the proof of FlatMay that stand ahead of it (26: FlSeq, FlCopy, FlMay, FlSmall, FlGood, FlAlts, FlAnew). -/
import Derived.Test.YtamefbpdnblbdaaGreatDoorFlatMayM25
import Derived.Test.YtamefbpdnblbdaaGreatDoorFlatMayM6
import Derived.Test.YtamefbpdnblbdaaGreatDoorFlatMayM24
namespace Go.Proofs.YtamefbpdnblbdaaGreatDoor.F
open Go.RowKit Go.Proofs.YtamefbpdnblbdaaGreatDoor.T Go.Proofs.YtamefbpdnblbdaaGreatDoor.R
set_option linter.unusedVariables false
set_option linter.unusedSimpArgs false

def PartC (ns : List (List Int)) (n : Nat) (d : Int) : Prop :=
  ∀ (D : Nat → Prop) (w : World) (B b m : Nat) (s : Mk) (v : Value) (l : List SY) (pv : Value) (p : PT), B ≤ w.heap.size → (∀ k, w.heap.size ≤ k → D k) → Mak (fun k => D k ∧ some k ≠ v.ownBlock) w B b m ns d s → LV w B v l → PartB B n w pv p → smP n p →
    Calls Tryz.prog 100 #[.pointer (some ⟨b, 0, none⟩), v, pv] w (LfR D B b m ns d v w (partM ns n d s l p))
theorem PtC.at {PV : Value → PT → Prop} : ∀ (ps : List PT) (cs : List Value) (j : Nat), PtC PV ps cs → j < ps.length → ∃ c0 c1 c2 c3 c4 p, cs[5 * j]? = some c0 ∧ cs[5 * j + 1]? = some c1 ∧ cs[5 * j + 2]? = some c2 ∧ cs[5 * j + 3]? = some c3 ∧ cs[5 * j + 4]? = some c4 ∧ PV (.agg #[c0, c1, c2, c3, c4]) p ∧ ps.drop j = p :: ps.drop (j + 1) := by
  intro ps
  induction ps with
  | nil => intro cs j _ hj; simp at hj
  | cons x ps ih =>
    intro cs j h hj
    obtain ⟨c0, c1, c2, c3, c4, cs', rfl, hv, ht⟩ := h
    cases j with
    | zero => exact ⟨c0, c1, c2, c3, c4, x, rfl, rfl, rfl, rfl, rfl, hv, rfl⟩
    | succ j =>
      obtain ⟨d0, d1, d2, d3, d4, p, h0, h1, h2, h3, h4, h5, h6⟩ := ih cs' j ht (by simp at hj; omega)
      refine ⟨d0, d1, d2, d3, d4, p, ?_, ?_, ?_, ?_, ?_, h5, by simpa using h6⟩
      · rw [show 5 * (j + 1) = 5 * j + 1 + 1 + 1 + 1 + 1 by omega]; simpa using h0
      · rw [show 5 * (j + 1) + 1 = 5 * j + 1 + 1 + 1 + 1 + 1 + 1 by omega]; simpa using h1
      · rw [show 5 * (j + 1) + 2 = 5 * j + 2 + 1 + 1 + 1 + 1 + 1 by omega]; simpa using h2
      · rw [show 5 * (j + 1) + 3 = 5 * j + 3 + 1 + 1 + 1 + 1 + 1 by omega]; simpa using h3
      · rw [show 5 * (j + 1) + 4 = 5 * j + 4 + 1 + 1 + 1 + 1 + 1 by omega]; simpa using h4
theorem PartB.form {B : Nat} {n : Nat} {w : World} {c0 c1 c2 c3 c4 : Value} {p : PT} (h : PartB B n w (.agg #[c0, c1, c2, c3, c4]) p) : ∃ k S a n1 c a' n' c', c0 = .int .i64 k ∧ c1 = .string S ∧ c2 = .slice a n1 c ∧ c3 = .slice a' n' c' ∧ c4 = .int .i64 (atP p) ∧ k = kdP p := by
  cases n with
  | zero => exact h.elim
  | succ n =>
    obtain ⟨kk, t, R, L, q, aR, cR, aL, cL, cs, rfl, e2, -⟩ := h
    simp only [Value.agg.injEq, Array.mk.injEq, List.cons.injEq, and_true] at e2
    obtain ⟨rfl, rfl, rfl, rfl, rfl⟩ := e2
    exact ⟨_, _, _, _, _, _, _, _, rfl, rfl, rfl, rfl, rfl, rfl⟩
theorem parts_at {B n : Nat} {w : World} {a : Option Addr} {len cap : Nat} {L : List PT} {cs : List Value} (hr : Row5 (fun g => g < B) w a len cap cs) (hc : PtC (PartB B n w) L cs) (j : Nat) (hj : j < L.length) :
    ∃ g off k S a1 n1 c1 a2 n2 c2 p, a = some ⟨g, off, none⟩ ∧ g < w.heap.size ∧ w.cell? ⟨g, off + 5 * j, none⟩ = some (.int .i64 k) ∧ w.cell? ⟨g, off + 5 * j + 1, none⟩ = some (.string S) ∧ w.cell? ⟨g, off + 5 * j + 2, none⟩ = some (.slice a1 n1 c1) ∧ w.cell? ⟨g, off + 5 * j + 3, none⟩ = some (.slice a2 n2 c2) ∧ w.cell? ⟨g, off + 5 * j + 4, none⟩ = some (.int .i64 (atP p)) ∧
      PartB B n w (.agg #[.int .i64 k, .string S, .slice a1 n1 c1, .slice a2 n2 c2, .int .i64 (atP p)]) p ∧ L.drop j = p :: L.drop (j + 1) := by
  obtain ⟨c0, c1, c2, c3, c4, p, h0, h1, h2, h3, h4, hv, hd⟩ := PtC.at L cs j hc hj
  obtain ⟨k, S, a1, n1, d1, a2, n2, d2, rfl, rfl, rfl, rfl, rfl, -⟩ := PartB.form hv
  obtain ⟨g, off, ha, -, q0⟩ := hr.2.2 _ _ h0
  have key : ∀ i u, cs[5 * j + i]? = some u → w.cell? ⟨g, off + 5 * j + i, none⟩ = some u := fun i u hu => by
    obtain ⟨g', off', ha', -, q⟩ := hr.2.2 _ _ hu
    rw [ha] at ha'
    injection ha' with ha'
    injection ha' with e1 e2
    subst e1; subst e2
    rw [Nat.add_assoc]; exact q
  exact ⟨g, off, k, S, a1, n1, d1, a2, n2, d2, p, ha, block_lt' q0, q0, key 1 _ h1, key 2 _ h2, key 3 _ h3, key 4 _ h4, hv, hd⟩
theorem Row5.fl {B b : Nat} {x : Option Nat} {w X : World} (f : Fl B b x w X) (hB : B ≤ w.heap.size) {a : Option Addr} {len cap : Nat} {cs : List Value} (h : Row5 (fun g => g < B) w a len cap cs) : Row5 (fun g => g < B) X a len cap cs :=
  h.kept (fun g hg => ⟨hg, f.low g hg (by omega)⟩)
theorem seq_bad {f : PF} {p : PT} {ps : List PT} {m : Mk} {l : List SY} (h : m.why ≠ 0) : seqM f (p :: ps) m l = (m, l) := by unfold seqM; rw [if_pos h]
theorem seq_on {f : PF} {p : PT} {ps : List PT} {m : Mk} {l : List SY} (h : m.why = 0) : seqM f (p :: ps) m l = seqM f ps (f m l p).1 (f m l p).2 := by
  conv => lhs; unfold seqM
  rw [if_neg (fun c => c h)]
set_option maxRecDepth 20000 in
set_option maxHeartbeats 4000000 in
theorem fseq_l {ns : List (List Int)} {n : Nat} {d : Int} (HP : PartC ns n d) {D : Nat → Prop} {w : World} {B b m : Nat} {s : Mk} {v : Value} {l : List SY} (pv : Value) (p : PT) (hB : B ≤ w.heap.size) (hD : ∀ k, w.heap.size ≤ k → D k) (h : Mak (fun k => D k ∧ some k ≠ v.ownBlock) w B b m ns d s) (hL : LV w B v l) (hp : PartB B (n + 1) w pv p) (hs : smP (n + 1) p) :
    Calls Tryz.prog 55 #[.pointer (some ⟨b, 0, none⟩), v, pv] w (LfR D B b m ns d v w (seqM (partM ns n d) (psP p) s l)) := by
  obtain ⟨mv, hm⟩ := h
  obtain ⟨k, t, R, L, q, aR, cR, aL, cL, cs, rfl, rfl, f1, ht, f3, -, -, h5, hc⟩ := hp
  obtain ⟨-, -, hsl, hsm⟩ := hs
  simp only [ps_mk] at hsl hsm ⊢
  have B1 : ∀ o, Below w.heap.size w (w.alloc o) := fun o => Below.new1 o
  have hlt := hm.lt
  have INV := hideR (fun W (bW : Below w.heap.size w W) => InvL.start (D := D) hL hm bW)
  have HR5 := hideR h5
  have HPC := hideR hc
  have HSM := hideR hsm
  have HDD := hideR hD
  have HPP := hideR HP
  have MB := hideR hm.blk
  have VB := hideR hL.block
  obtain ⟨la, lc, rfl⟩ := hL.form
  have hcl := h5.1
  have hmx := h5.2.1
  unfold maxLen at hmx
  clear hm hL h5 hc hsm hD HP ht
  generalize strOfNums t = S at *
  generalize hnL : L.length = nL at *
  have HNL := hideR hnL
  clear hnL
  go_enter Tryz.func55, Tryz.ntmps55
  go_wp2_with fail
  have INV0 := hideR (unhideR INV _ (B1 (.cells #[.int .i64 k, .string S, .slice aR R.length cR, .slice aL nL cL, .int .i64 q] 42)))
  clear INV
  go_loopw [1, 12] (fun lv i wr => ∃ (j : Nat) (s' : Mk) (l' : List SY), j ≤ nL ∧ i = .int .i64 (j : Int) ∧ Hid (seqM (partM ns n d) L s l = seqM (partM ns n d) (L.drop j) s' l') ∧ Hid (InvL D B b m ns d (.slice la l.length lc) w s' lv l' wr) ∧ w.heap.size ≤ wr.heap.size) (fun _ i _ => nL - (intOf i).toNat)
  case atStart => exact ⟨0, s, l, Nat.zero_le _, rfl, rfl, INV0, (unhideR INV0).2.2.1.size⟩
  case round =>
    obtain ⟨j, s', l', hj, rfl, hT, hI, hsw⟩ := hrel
    obtain ⟨xa, xc, rfl⟩ := (unhideR hI).1.form
    by_cases hlt2 : j < nL
    · have KR1 : KR w wr := (unhideR hI).2.2.1.kr (unhideR MB).choose_spec.choose_spec (unhideR VB)
      obtain ⟨g, off, k1, S1, a1, n1, c1, a2, n2, c2, p1, rfl, hg, q0, q1, q2, q3, q4, pv1, hd⟩ := parts_at (Row5.fl (unhideR hI).2.2.1 hB (unhideR HR5)) (PtC.mono (fun u x hx => PartB.kept (fun g hg => ⟨hg, (unhideR hI).2.2.1.low g hg (by omega)⟩) KR1 n u x hx) _ _ (unhideR HPC)) j (by rw [unhideR HNL]; exact hlt2)
      clear KR1
      have HPV := hideR pv1
      have HD1 := hideR hd
      obtain ⟨mv1, hmk⟩ := (unhideR hI).2.1
      have c14 := (mcells hmk.cells).2.2.2.2.2.1
      have hb14 := hmk.lt
      have n5 : j * 5 = 5 * j := by omega
      clear pv1 hd hmk
      by_cases hw0 : s'.why = 0
      · have hbb : (s'.why != 0) = false := by rw [hw0]; rfl
        have NXT : Hid (seqM (partM ns n d) L s l = seqM (partM ns n d) (L.drop (j + 1)) (partM ns n d s' l' p1).1 (partM ns n d s' l' p1).2) := by show _ = _; rw [unhideR hT, unhideR HD1, seq_on hw0]
        have SM1 : Hid (smP n p1) := unhideR HSM p1 (List.mem_of_mem_drop (i := j) (by rw [unhideR HD1]; exact List.mem_cons_self ..))
        have CP := hideR (fun W (bW : Below wr.heap.size wr W) => unhideR HPP D W B b m s' (.slice xa l'.length xc) l' _ p1 (by have := bW.size; omega) (fun k hk => unhideR HDD k (by have := bW.size; omega)) ((unhideR hI).more bW).2.1 ((unhideR hI).1.later bW) (PartB.kept (fun g hg => ⟨hg, bW.block g (by omega)⟩) (KR.of bW) n _ p1 (unhideR HPV)) (unhideR SM1))
        clear hT HPV HD1 SM1 hw0
        go_wp2_with fail
        refine (unhideR CP _ (Below.new1 _)).mono ?_
        clear CP
        rintro e w2 lf
        obtain ⟨v2, rfl, lv2, -⟩ := id lf
        obtain ⟨ya, yc, rfl⟩ := lv2.form
        have NI := hideR (((unhideR hI).more (Below.new1 _)).on lf)
        have s2 := (unhideR NI).2.2.1.size
        clear lf lv2 hI
        go_wp2_with fail
        go_roundw
        case rel => exact ⟨j + 1, _, _, by omega, by simp, NXT, NI, s2⟩
        case measure => simp [intOf]; omega
      · have hbb : (s'.why != 0) = true := by rw [bne_iff_ne]; exact hw0
        have FIN : Hid (seqM (partM ns n d) L s l = (s', l')) := by show _ = _; rw [unhideR hT, unhideR HD1, seq_bad hw0]
        clear hT HPV HD1 hw0
        go_wp2_with fail
        go_ret
        rw [unhideR FIN]
        exact ((unhideR hI).more (Below.new1 _)).out
    · obtain rfl : j = nL := by omega
      have FIN : Hid (seqM (partM ns n d) L s l = (s', l')) := by
        show _ = _
        rw [unhideR hT, List.drop_eq_nil_of_le (by rw [unhideR HNL]; exact Nat.le_refl _)]
        rfl
      go_wp2_with fail
      go_ret
      rw [unhideR FIN]
      exact (unhideR hI).out
def AlR (D : Nat → Prop) (B b m : Nat) (ns : List (List Int)) (d : Int) (w : World) (r : Mk × List (List SY)) (e : Ending) (w' : World) : Prop :=
  ∃ av, e = .returned av ∧ AltV D w' av r.2 ∧ Mak D w' B b m ns d r.1 ∧ Fl B b none w w' ∧ r.2.length ≤ 9
theorem each_bad {f : PF} {p : PT} {ps : List PT} {m : Mk} {a : List (List SY)} (h : m.why ≠ 0) : eachM f (p :: ps) m a = (m, a) := by unfold eachM; rw [if_pos h]
theorem each_on {f : PF} {p : PT} {ps : List PT} {m : Mk} {a : List (List SY)} (h : m.why = 0) : eachM f (p :: ps) m a = eachM f ps (f m [] p).1 (if a.length ≤ 8 then a ++ [(f m [] p).2] else a) := by
  conv => lhs; unfold eachM
  rw [if_neg (fun c => c h)]
theorem syms_info : (Tryz.prog.info? 46).map (fun i => (i.zero, i.size, i.bytes)) = some (some (.slice none 0 0), 1, 24) := by kernel_rfl
theorem new_syms (w : World) (n : Nat) (x0 : Value) (hn : n = w.heap.size) : ∀ (j : Nat) (u : Value), [x0][j]? = some u → (w.alloc (.cells #[x0] 46)).cell? ((⟨n, 0, none⟩ : Addr).add j) = some u := by
  subst hn
  exact World.news_of_block (cs := #[x0]) (t := 46) (fr := (0, 0)) (heap_alloc_new w _)
def InvA (D : Nat → Prop) (B b m : Nat) (ns : List (List Int)) (d : Int) (w : World) (s : Mk) (av : Value) (A : List (List SY)) (wr : World) : Prop :=
  AlV D wr w.heap.size av A ∧ Mak (fun k => D k ∧ some k ≠ av.ownBlock) wr B b m ns d s ∧ Fl B b none w wr
theorem InvA.more {D : Nat → Prop} {B b m : Nat} {ns : List (List Int)} {d : Int} {w wr X : World} {s : Mk} {av : Value} {A : List (List SY)} (h : InvA D B b m ns d w s av A wr) (k : Below wr.heap.size wr X) : InvA D B b m ns d w s av A X := by
  obtain ⟨⟨h1, cs, own, hs⟩, ⟨mv, h2⟩, h3⟩ := h
  exact ⟨⟨h1, cs, ownL k own, SqC.kp (Kp.of k) _ _ hs⟩, ⟨mv, h2.later k⟩, h3.then (Fl.of (x := none) k) (fun g e => by cases e)⟩
theorem AlV.form {D : Nat → Prop} {w : World} {B : Nat} {v : Value} {A : List (List SY)} (h : AlV D w B v A) : ∃ a c, v = .slice a A.length c := by
  obtain ⟨-, cs, own, -⟩ := h
  exact own_form own
theorem InvA.dd {D : Nat → Prop} {B b m : Nat} {ns : List (List Int)} {d : Int} {w wr : World} {s : Mk} {av : Value} {A : List (List SY)} (h : InvA D B b m ns d w s av A wr) (hD : ∀ k, w.heap.size ≤ k → D k) : ∀ k, wr.heap.size ≤ k → D k ∧ some k ≠ av.ownBlock := by
  obtain ⟨⟨h1, cs, own, hs⟩, -, h3⟩ := h
  intro k hk
  refine ⟨hD k (Nat.le_trans h3.size hk), fun e => ?_⟩
  have := (own.lt k e.symm).2
  omega
theorem InvA.out {D : Nat → Prop} {B b m : Nat} {ns : List (List Int)} {d : Int} {w wr : World} {s : Mk} {av : Value} {A : List (List SY)} (h : InvA D B b m ns d w s av A wr) (hD : ∀ k, w.heap.size ≤ k → D k) : AlR D B b m ns d w (s, A) (.returned av) wr := by
  obtain ⟨h1, ⟨mv, h2⟩, h3⟩ := h
  refine ⟨av, rfl, h1.alt (fun g hg => ?_), ⟨mv, h2.weak (fun g _ hd => hd.1)⟩, h3, h1.1⟩
  obtain ⟨-, cs, own, -⟩ := h1
  exact hD g (own.lt g hg).1
theorem InvA.part {D : Nat → Prop} {B b m : Nat} {ns : List (List Int)} {d : Int} {w wr w2 : World} {s : Mk} {av v2 : Value} {A : List (List SY)} {r : Mk × List SY} (h : InvA D B b m ns d w s av A wr) (hD : ∀ k, w.heap.size ≤ k → D k) (lf : LfR (fun k => D k ∧ some k ≠ av.ownBlock) B b m ns d (.slice none 0 0) wr r (.returned v2) w2) : InvA D B b m ns d w r.1 av A w2 ∧ SymsV D w2 v2 r.2 := by
  obtain ⟨h1, ⟨mv, h2⟩, h3⟩ := h
  obtain ⟨v', e, lv, ⟨mv', mk'⟩, fl, nx⟩ := lf
  injection e with e
  subst e
  have s3 := h3.size
  refine ⟨⟨?_, ⟨mv', mk'.weak (fun g _ hd => hd.1)⟩, h3.then fl (fun g e => by cases e)⟩, lv.syms (fun g hg => ?_)⟩
  · obtain ⟨a1, cs, own, hs⟩ := h1
    refine ⟨a1, cs, own_keep own (fun g o hg ho => ?_), SqC.kp (fl.kp h2.cells (fun k e => by cases e) (fun g _ hd => ⟨by simp [Value.ownBlock], hd⟩)) _ _ hs⟩
    obtain ⟨c1, hc⟩ := own_blk own g hg
    rw [hc] at ho
    injection ho with ho
    subst ho
    exact fl.block g _ hc (type_ne hc h2.cells (by decide)) (by simp [Value.ownBlock]) (fun c2 f2 e => by injection e with _ e; exact absurd e (by decide))
  · rcases nx g hg with c | c
    · cases c
    · exact hD g (by omega)
theorem InvA.snoc {D : Nat → Prop} {B b m : Nat} {ns : List (List Int)} {d : Int} {w wr w6 : World} {s : Mk} {av v2 : Value} {A : List (List SY)} {l : List SY} {o : Obj} {gg cap : Nat} {cs : List Value} (h : InvA D B b m ns d w s av A wr) (hA : A.length ≤ 8) (hv : SymsV D wr v2 l) (hs : SqC D wr A cs) (hl : wr.ownsRow w.heap.size 46 1 av A.length cs) (hB : B ≤ w.heap.size)
    (ho : w6.ownsRow w.heap.size 46 1 (.slice (some ⟨gg, 0, none⟩) (A.length + 1) cap) (A.length + 1) (cs ++ [v2])) (hg : (wr.alloc o).grownBy w6 av.ownBlock) (hat : av.ownBlock = some gg ∨ gg = (wr.alloc o).heap.size) : InvA D B b m ns d w s (.slice (some ⟨gg, 0, none⟩) (A.length + 1) cap) (A ++ [l]) w6 := by
  have h' := h.more (Below.new1 (w := wr) o)
  obtain ⟨-, ⟨mv, h2⟩, h3⟩ := h'
  have blk : ∀ k, av.ownBlock = some k → w.heap.size ≤ k ∧ ∃ cs, (wr.alloc o).heap[k]? = some (.cells cs 46) := fun k hk => by
    obtain ⟨c, hc⟩ := own_blk hl k hk
    exact ⟨(hl.lt k hk).1, c, old_at hc o⟩
  have hne : ∀ (k : Nat) (o' : Obj), (wr.alloc o).heap[k]? = some o' → (∀ c fr, o' ≠ .cells c 46 fr) → w6.heap[k]? = some o' := fun k o' hk hno => by
    rw [hg.block k (Array.getElem?_eq_some_iff.1 hk).1 (fun e => ?_)]
    · exact hk
    · obtain ⟨-, c, hc⟩ := blk k e.symm
      rw [hk] at hc; injection hc with hc; exact hno _ _ hc
  have ne_t : ∀ (cs : Array Value) (t : TypeId) (fr : Nat × Nat), t ≠ 46 → ∀ c f, Obj.cells cs t fr ≠ .cells c 46 f := fun cs t fr ht c f e => by injection e with _ e; exact ht e
  have kr : KR (wr.alloc o) w6 := fun g c fr hk => hne g _ hk (ne_t _ _ _ (by decide))
  refine ⟨⟨by rw [List.length_append]; simp; omega, _, by rw [List.length_append]; exact ho, ?_⟩, ⟨mv, ⟨h2.hB, h2.hm, h2.d0, h2.l0, hne b _ h2.cells (ne_t _ _ _ (by decide)), ?_, ?_⟩⟩, ?_⟩
  · have hv' : SymsV D w6 v2 l := by
      obtain ⟨a, c, cs', e, hr, hy⟩ := hv
      exact ⟨a, c, cs', e, hr.kept (fun g cur fr hd hgg => ⟨hd, hne g _ (old_at hgg o) (ne_t _ _ _ (by decide))⟩), SyC.kr ((KR.of (Below.new1 o)).then kr) _ _ hy⟩
    have mono : ∀ (A : List (List SY)) (cs : List Value), SqC D wr A cs → SqC D w6 A cs := by
      intro A
      induction A with
      | nil => intro cs h; exact h
      | cons l A ih =>
        intro cs h
        obtain ⟨c0, cs', e, ⟨a, c, cs2, e2, hr, hy⟩, ht⟩ := h
        exact ⟨c0, cs', e, ⟨a, c, cs2, e2, hr.kept (fun g cur fr hd hgg => ⟨hd, hne g _ (old_at hgg o) (ne_t _ _ _ (by decide))⟩), SyC.kr ((KR.of (Below.new1 o)).then kr) _ _ hy⟩, ih _ ht⟩
    exact SqC.snoc hv' _ _ (mono _ _ hs)
  · obtain ⟨m1, cs', own, hp⟩ := h2.made
    refine ⟨m1, cs', own_keep own (fun g o' hgg ho' => ?_), PrC.kp ⟨kr, fun g cur fr t ht hd hgg => ⟨⟨hd.1, fun e => ?_⟩, ?_⟩⟩ _ _ hp⟩
    · obtain ⟨c1, hc⟩ := own_blk own g hgg
      rw [hc] at ho'
      injection ho' with ho'
      subst ho'
      exact hne g _ hc (ne_t _ _ _ (by decide))
    · rw [hg.block g (Array.getElem?_eq_some_iff.1 hgg).1 hd.2]; exact hgg
    · simp only [Value.ownBlock, Option.some.injEq] at e
      rcases hat with c | c
      · exact hd.2 (by rw [c, e])
      · have := (Array.getElem?_eq_some_iff.1 hgg).1; omega
  · exact h2.names.keep (fun o' ho' hno => hne m o' ho' (fun c f => hno _ _ _))
  · refine ⟨hg.os.trans h3.os, hg.tape.trans h3.tape, hg.output.trans h3.output, Nat.le_trans h3.size hg.size, fun k h1 h2 => ?_, fun k o' h1 h2 h3' h4 => ?_⟩
    · rw [hg.block k (Nat.lt_of_lt_of_le h2 h3.size) (fun e => by have := (blk k e.symm).1; omega)]
      exact h3.low k h1 h2
    · have hk := (Array.getElem?_eq_some_iff.1 h1).1
      rw [hg.block k (Nat.lt_of_lt_of_le hk h3.size) (fun e => by have := (blk k e.symm).1; omega)]
      exact h3.block k o' h1 h2 h3' h4
set_option maxRecDepth 20000 in
set_option maxHeartbeats 4000000 in
theorem feach_l {ns : List (List Int)} {n : Nat} {d : Int} (HP : PartC ns n d) {D : Nat → Prop} {w : World} {B b m : Nat} {s : Mk} (pv : Value) (p : PT) (k0 n0 : Int) (sa : Option Addr) (sn sc : Nat) (hB : B ≤ w.heap.size) (hD : ∀ k, w.heap.size ≤ k → D k) (h : Mak D w B b m ns d s) (hp : PartB B (n + 1) w pv p) (hs : smP (n + 1) p) :
    Calls Tryz.prog 102 #[.pointer (some ⟨b, 0, none⟩), pv, .agg #[.int .i64 k0, .slice sa sn sc, .int .i64 n0]] w (AlR D B b m ns d w (eachM (partM ns n d) (psP p) s [])) := by
  obtain ⟨mv, hm⟩ := h
  obtain ⟨k, t, R, L, q, aR, cR, aL, cL, cs, rfl, rfl, f1, ht, f3, -, -, h5, hc⟩ := hp
  obtain ⟨-, -, hsl, hsm⟩ := hs
  simp only [ps_mk] at hsl hsm ⊢
  have B2 : ∀ o1 o2, Below w.heap.size w ((w.alloc o1).alloc o2) := fun o1 o2 => (Below.new1 o1).alloc (by simp) o2
  have hlt := hm.lt
  have INV := hideR (fun W (bW : Below w.heap.size w W) => show InvA D B b m ns d w s (.slice none 0 0) [] W from ⟨⟨Nat.zero_le _, [], World.ownsRow_nil _ _ _ _, rfl⟩, ⟨mv, (hm.later bW).weak (fun g _ hd => ⟨hd, by simp [Value.ownBlock]⟩)⟩, Fl.of bW⟩)
  have HR5 := hideR h5
  have HPC := hideR hc
  have HSM := hideR hsm
  have HDD := hideR hD
  have HPP := hideR HP
  have MB := hideR hm.blk
  have hcl := h5.1
  have hmx := h5.2.1
  unfold maxLen at hmx
  clear hm h5 hc hsm hD HP ht
  generalize strOfNums t = S at *
  generalize hnL : L.length = nL at *
  have HNL := hideR hnL
  clear hnL
  go_enter Tryz.func102, Tryz.ntmps102
  go_wp2_with fail
  have INV0 := hideR (unhideR INV _ (B2 (.cells #[.int .i64 k, .string S, .slice aR R.length cR, .slice aL nL cL, .int .i64 q] 42) (.cells #[.int .i64 k0, .slice sa sn sc, .int .i64 n0] 56)))
  clear INV
  go_loopw [7, 14] (fun av i wr => ∃ (j : Nat) (s' : Mk) (A : List (List SY)), j ≤ nL ∧ i = .int .i64 (j : Int) ∧ Hid (eachM (partM ns n d) L s [] = eachM (partM ns n d) (L.drop j) s' A) ∧ Hid (InvA D B b m ns d w s' av A wr) ∧ w.heap.size ≤ wr.heap.size) (fun _ i _ => nL - (intOf i).toNat)
  case atStart => exact ⟨0, s, [], Nat.zero_le _, rfl, rfl, INV0, (unhideR INV0).2.2.size⟩
  case round =>
    obtain ⟨j, s', A, hj, rfl, hT, hI, hsw⟩ := hrel
    obtain ⟨xa, xc, rfl⟩ := (unhideR hI).1.form
    have h9 := (unhideR hI).1.1
    by_cases hlt2 : j < nL
    · have KR1 : KR w wr := (unhideR hI).2.2.kr (unhideR MB).choose_spec.choose_spec (no_x _)
      obtain ⟨g, off, k1, S1, a1, n1, c1, a2, n2, c2, p1, rfl, hg, q0, q1, q2, q3, q4, pv1, hd⟩ := parts_at (Row5.fl (unhideR hI).2.2 hB (unhideR HR5)) (PtC.mono (fun u x hx => PartB.kept (fun g hg => ⟨hg, (unhideR hI).2.2.low g hg (by omega)⟩) KR1 n u x hx) _ _ (unhideR HPC)) j (by rw [unhideR HNL]; exact hlt2)
      clear KR1
      have HPV := hideR pv1
      have HD1 := hideR hd
      obtain ⟨mv1, hmk⟩ := (unhideR hI).2.1
      have c14 := (mcells hmk.cells).2.2.2.2.2.1
      have hb14 := hmk.lt
      have n5 : j * 5 = 5 * j := by omega
      clear pv1 hd hmk
      by_cases hw0 : s'.why = 0
      · have hbb : (s'.why != 0) = false := by rw [hw0]; rfl
        have NXT : Hid (eachM (partM ns n d) L s [] = eachM (partM ns n d) (L.drop (j + 1)) (partM ns n d s' [] p1).1 (if A.length ≤ 8 then A ++ [(partM ns n d s' [] p1).2] else A)) := by show _ = _; rw [unhideR hT, unhideR HD1, each_on hw0]
        have SM1 : Hid (smP n p1) := unhideR HSM p1 (List.mem_of_mem_drop (i := j) (by rw [unhideR HD1]; exact List.mem_cons_self ..))
        have CP := hideR (fun W (bW : Below wr.heap.size wr W) => unhideR HPP (fun k => D k ∧ some k ≠ (Value.slice xa A.length xc).ownBlock) W B b m s' (.slice none 0 0) [] _ p1 (by have := bW.size; omega) (((unhideR hI).more bW).dd (unhideR HDD)) (by
            obtain ⟨mv9, h9⟩ := ((unhideR hI).more bW).2.1
            exact ⟨mv9, h9.weak (fun g _ hd => ⟨hd, by simp [Value.ownBlock]⟩)⟩) (LV.nil W B) (PartB.kept (fun g hg => ⟨hg, bW.block g (by omega)⟩) (KR.of bW) n _ p1 (unhideR HPV)) (unhideR SM1))
        clear hT HPV HD1 SM1 hw0
        generalize hr : partM ns n d s' [] p1 = r at *
        clear hr
        go_wp2_with fail
        refine (unhideR CP _ (Below.new1 _)).mono ?_
        clear CP
        rintro e w2 lf
        obtain ⟨v2, rfl, lv2, -⟩ := id lf
        obtain ⟨ya, yc, rfl⟩ := lv2.form
        obtain ⟨NI, SV⟩ := ((unhideR hI).more (Below.new1 _)).part (unhideR HDD) lf
        have HNI := hideR NI
        have HSV := hideR SV
        have s2 := NI.2.2.size
        clear lf lv2 hI SV NI
        by_cases h8 : A.length ≤ 8
        · rw [if_pos h8] at NXT
          have b8 : decide ((A.length : Int) ≤ 8) = true := decide_eq_true (by omega)
          obtain ⟨ti, hi0, hz0, hz1, hz2⟩ := info_parts syms_info
          obtain ⟨-, cs2, HO, hsq⟩ := (unhideR HNI).1
          have HSQ := hideR hsq
          clear hsq
          go_wp2_with (at_builtin; refine wpList_append_lies _ rfl _ _ 36 rfl w.heap.size 46 ti _ 1 24 Tryz.underlying36 hi0 hz0 hz1 hz2 rfl (by omega) _ _ _ rfl (HO.alloc _) ⟨w2.heap.size, 0, none⟩ 1 1 [.slice ya r.2.length yc] rfl rfl (new_syms _ _ _ rfl) (by simp [Value.oneCell']) (by omega) (by unfold maxLen; omega) (by omega) (by simp; omega) (w2.heap.size + 1) (by simp) ?_; intro gg cap1 w6 hown1 hgrow hat hlt1)
          have NI2 := hideR ((unhideR HNI).snoc h8 (unhideR HSV) (unhideR HSQ) HO hB hown1 hgrow (by rcases hat with h | h; exact .inl h; exact .inr (by simp [h])))
          have s6 := (unhideR NI2).2.2.size
          clear hown1 hgrow hat HO HSQ HNI
          (try go_wp2_with fail)
          go_roundw
          case rel => exact ⟨j + 1, _, A ++ [r.2], by omega, by simp, NXT, NI2, s6⟩
          case measure => simp [intOf]; omega
        · rw [if_neg h8] at NXT
          have b8 : decide ((A.length : Int) ≤ 8) = false := decide_eq_false (by omega)
          go_wp2_with fail
          go_roundw
          case rel => exact ⟨j + 1, _, A, by omega, by simp, NXT, HNI, s2⟩
          case measure => simp [intOf]; omega
      · have hbb : (s'.why != 0) = true := by rw [bne_iff_ne]; exact hw0
        have FIN : Hid (eachM (partM ns n d) L s [] = (s', A)) := by show _ = _; rw [unhideR hT, unhideR HD1, each_bad hw0]
        clear hT HPV HD1 hw0
        go_wp2_with fail
        go_ret
        rw [unhideR FIN]
        exact ((unhideR hI).more (Below.new1 _)).out (unhideR HDD)
    · obtain rfl : j = nL := by omega
      have FIN : Hid (eachM (partM ns n d) L s [] = (s', A)) := by
        show _ = _
        rw [unhideR hT, List.drop_eq_nil_of_le (by rw [unhideR HNL]; exact Nat.le_refl _)]
        rfl
      go_wp2_with fail
      go_ret
      rw [unhideR FIN]
      exact (unhideR hI).out (unhideR HDD)
end Go.Proofs.YtamefbpdnblbdaaGreatDoor.F

namespace Go.Proofs.YtamefbpdnblbdaaGreatDoor.F
open Go.RowKit Go.Proofs.YtamefbpdnblbdaaGreatDoor.T Go.Proofs.YtamefbpdnblbdaaGreatDoor.R
set_option linter.unusedVariables false
set_option linter.unusedSimpArgs false

theorem only_one {f : PF} {p x : PT} {m : Mk} (h : psP p = [x]) : onlyM f p m = f m [] x := by unfold onlyM; rw [h]
theorem only_not {f : PF} {p : PT} {m : Mk} (h : (psP p).length ≠ 1) : onlyM f p m = (m.stop (atP p) 7, []) := by
  unfold onlyM
  split
  · rename_i x e; rw [e] at h; simp at h
  · rfl
set_option maxRecDepth 20000 in
set_option maxHeartbeats 4000000 in
theorem fonly_l {ns : List (List Int)} {n : Nat} {d : Int} (HP : PartC ns n d) {D : Nat → Prop} {w : World} {B b m : Nat} {s : Mk} (pv : Value) (p : PT) (hB : B ≤ w.heap.size) (hD : ∀ k, w.heap.size ≤ k → D k) (h : Mak D w B b m ns d s) (hp : PartB B (n + 1) w pv p) (hs : smP (n + 1) p) :
    Calls Tryz.prog 133 #[.pointer (some ⟨b, 0, none⟩), pv] w (LfR D B b m ns d (.slice none 0 0) w (onlyM (partM ns n d) p s)) := by
  obtain ⟨mv, hm⟩ := h
  obtain ⟨k, t, R, L, q, aR, cR, aL, cL, cs, rfl, rfl, f1, ht, f3, -, -, h5, hc⟩ := hp
  obtain ⟨-, -, hsl, hsm⟩ := hs
  simp only [ps_mk] at hsl hsm
  have B1 : ∀ o, Below w.heap.size w (w.alloc o) := fun o => Below.new1 o
  have hlt := hm.lt
  have hcl := h5.1
  have hmx := h5.2.1
  unfold maxLen at hmx
  by_cases h1 : L.length = 1
  · obtain ⟨x, rfl⟩ := List.length_eq_one_iff.1 h1
    have FIN : Hid (onlyM (partM ns n d) (mk k t R [x] q) s = partM ns n d s [] x) := only_one rfl
    obtain ⟨g, off, k1, S1, a1, n1, c1, a2, n2, c2, p1, rfl, hg, q0, q1, q2, q3, q4, pv1, hd⟩ := parts_at h5 hc 0 (by simp)
    have e1 : x = p1 := by simpa using hd
    subst e1
    simp only [Nat.mul_zero, Nat.add_zero, List.length_cons, List.length_nil, Nat.zero_add] at q0 q1 q2 q3 q4 hcl ⊢
    have Q0 : ∀ o, (w.alloc o).cell? ⟨g, off, none⟩ = some (.int .i64 k1) := fun o => ((B1 o).cell hg).trans q0
    have Q1 : ∀ o, (w.alloc o).cell? ⟨g, off + 1, none⟩ = some (.string S1) := fun o => ((B1 o).cell hg).trans q1
    have Q2 : ∀ o, (w.alloc o).cell? ⟨g, off + 2, none⟩ = some (.slice a1 n1 c1) := fun o => ((B1 o).cell hg).trans q2
    have Q3 : ∀ o, (w.alloc o).cell? ⟨g, off + 3, none⟩ = some (.slice a2 n2 c2) := fun o => ((B1 o).cell hg).trans q3
    have Q4 : ∀ o, (w.alloc o).cell? ⟨g, off + 4, none⟩ = some (.int .i64 (atP x)) := fun o => ((B1 o).cell hg).trans q4
    have CP := hideR (fun W (bW : Below w.heap.size w W) => HP D W B b m s (.slice none 0 0) [] _ x (by have := bW.size; omega) (fun k hk => hD k (by have := bW.size; omega)) ⟨mv, (hm.later bW).weak (fun g _ hd => ⟨hd, by simp [Value.ownBlock]⟩)⟩ (LV.nil W B) (PartB.kept (fun g hg => ⟨hg, bW.block g (by omega)⟩) (KR.of bW) n _ x pv1) (hsm x (by simp)))
    clear hm h5 hc hsm hD HP ht q0 q1 q2 q3 q4 pv1 hd h1
    generalize strOfNums t = S at *
    go_enter Tryz.func133, Tryz.ntmps133
    go_wp2_with fail
    refine (unhideR CP _ (B1 _)).mono ?_
    clear CP
    rintro e w2 lf
    obtain ⟨v2, rfl, lv2, -⟩ := id lf
    obtain ⟨ya, yc, rfl⟩ := lv2.form
    have HLF := hideR lf
    clear lf lv2
    go_wp2_with fail
    go_ret
    rw [unhideR FIN]
    obtain ⟨v3, e3, l1, l2, l3, l4⟩ := unhideR HLF
    refine ⟨v3, e3, l1, l2, (Fl.of (x := none) (B1 _)).then l3 (fun g e => by cases e), fun g hg => ?_⟩
    rcases l4 g hg with c | c
    · exact .inl c
    · exact .inr (Nat.le_trans (Nat.le_succ _) (by simpa using c))
  · have FIN : Hid (onlyM (partM ns n d) (mk k t R L q) s = (s.stop q 7, [])) := only_not (by simpa using h1)
    have hbb : ((L.length : Int) != 1) = true := by rw [bne_iff_ne]; omega
    have CS := hideR (fun W (bW : Below w.heap.size w W) => fstop_l (hm.later bW) q 7)
    have hBm := hm.hB
    clear hm h5 hc hsm hD HP ht
    generalize strOfNums t = S at *
    generalize L.length = nL at *
    go_enter Tryz.func133, Tryz.ntmps133
    go_wp2_with fail
    refine (unhideR CS _ (B1 _)).mono ?_
    rintro e w2 ⟨rfl, hm2, f2⟩
    clear CS
    go_wp2_with fail
    go_ret
    rw [unhideR FIN]
    exact ⟨_, rfl, LV.nil _ _, ⟨mv, hm2.weak (fun g _ hd => ⟨hd, by simp [Value.ownBlock]⟩)⟩, (Fl.of (x := none) (B1 _)).then f2 (fun g e => by cases e), Nx.refl _ _⟩

/-! ### Symbols are copied -/
def smS (l : List SY) : Prop := ∀ s ∈ l, s.2.1.length ≤ 1000000
theorem SyC.one {w : World} : ∀ (l : List SY) (cs : List Value), SyC w l cs → ∀ u ∈ cs, u.oneCell' = true := by
  intro l
  induction l with
  | nil => intro cs h u hu; have : cs = [] := h; subst this; cases hu
  | cons s l ih =>
    intro cs h u hu
    obtain ⟨a, c, cs', rfl, -, -, ht⟩ := h
    rcases List.mem_cons.1 hu with rfl | hu
    · rfl
    rcases List.mem_cons.1 hu with rfl | hu
    · rfl
    rcases List.mem_cons.1 hu with rfl | hu
    · rfl
    exact ih _ ht u hu
theorem SyC.at {w : World} : ∀ (l : List SY) (cs : List Value) (j : Nat), SyC w l cs → j < l.length → ∃ s a c, s ∈ l ∧ l.drop j = s :: l.drop (j + 1) ∧ cs[3 * j]? = some (.int .i64 s.1) ∧ cs[3 * j + 1]? = some (.slice a s.2.1.length c) ∧ cs[3 * j + 2]? = some (.int .i64 s.2.2) ∧ Rs w a s.2.1.length c s.2.1 ∧ Ty w a ∧
    ∀ (X : World) (a' : Option Addr) (c' : Nat), KR w X → Rs X a' s.2.1.length c' s.2.1 → Ty X a' → SyC X l (cs.set (3 * j + 1) (.slice a' s.2.1.length c')) := by
  intro l
  induction l with
  | nil => intro cs j _ hj; simp at hj
  | cons x l ih =>
    intro cs j h hj
    obtain ⟨a, c, cs', rfl, hr, hy, ht⟩ := h
    cases j with
    | zero => exact ⟨x, a, c, List.mem_cons_self .., rfl, rfl, rfl, rfl, hr, hy, fun X a' c' k hr' hy' => ⟨a', c', cs', rfl, hr', hy', SyC.kr k _ _ ht⟩⟩
    | succ j =>
      obtain ⟨s, a1, c1, hm, hd, h0, h1, h2, hr1, hy1, hset⟩ := ih cs' j ht (by simp at hj; omega)
      refine ⟨s, a1, c1, List.mem_cons_of_mem _ hm, by simpa using hd, ?_, ?_, ?_, hr1, hy1, fun X a' c' k hr' hy' => ?_⟩
      · rw [show 3 * (j + 1) = 3 * j + 1 + 1 + 1 by omega]; simpa using h0
      · rw [show 3 * (j + 1) + 1 = 3 * j + 1 + 1 + 1 + 1 by omega]; simpa using h1
      · rw [show 3 * (j + 1) + 2 = 3 * j + 2 + 1 + 1 + 1 by omega]; simpa using h2
      · obtain ⟨q1, q2⟩ := rs_kr k hr hy
        refine ⟨a, c, cs'.set (3 * j + 1) (.slice a' s.2.1.length c'), ?_, q1, q2, hset X a' c' k hr' hy'⟩
        rw [show 3 * (j + 1) + 1 = 3 * j + 1 + 1 + 1 + 1 by omega]
        rfl
set_option maxRecDepth 20000 in
set_option maxHeartbeats 1000000 in
theorem cloneS_l {B : Nat} (v : Value) (l : List SY) (w : World) (h : LV w B v l) :
    Calls Tryz.prog 166 #[v] w fun e w' => ∃ v', e = .returned v' ∧ LV w' w.heap.size v' l ∧ Below w.heap.size w w' := by
  obtain ⟨a, c, rfl⟩ := h.form
  obtain ⟨h41, cs, own, hs⟩ := h
  have hcl := SyC.len _ _ hs
  cases a with
  | none =>
    have hl0 : l = [] := by
      rcases own.2 with ⟨e, h0⟩ | ⟨g, cap, cur, e, -⟩
      · exact List.eq_nil_of_length_eq_zero h0
      · injection e with e1; cases e1
    subst hl0
    clear own hs hcl
    have heq : ∀ W, (binOp .eql 46 (.slice none 0 c) (.slice none 0 0)).run Tryz.prog W = .ok (.bool true) W := fun W => by kernel_rfl
    go_enter Tryz.func166, Tryz.ntmps166
    go_wp2_with fail
    go_ret
    exact ⟨_, rfl, LV.nil _ _, Below.refl _ _⟩
  | some ad =>
    obtain ⟨i0, hi0, hz0, hz1, hz2⟩ := info_parts sym_info
    have HN : ∀ o, ∀ (j : Nat) (u : Value), cs[j]? = some u → (w.alloc o).cell? (ad.add j) = some u := by
      intro o j u hu
      obtain ⟨g', h1, h2, -⟩ := own_cell own hu
      simp only [Value.ownBlock] at h1
      rcases own.2 with ⟨e, h0⟩ | ⟨g, cap, cur, e, hb, hg, -⟩
      · cases e
      · injection e with e1 e2 e3
        injection e1 with e1
        subst e1
        injection h1 with h1
        subst h1
        rw [Addr.add_lit, Nat.zero_add, World.cell?_of_block ((Below.new1 o).block _ (Array.getElem?_eq_some_iff.1 hg).1)]
        exact h2
    have heq : ∀ W, (binOp .eql 46 (.slice (some ad) l.length c) (.slice none 0 0)).run Tryz.prog W = .ok (.bool false) W := fun W => by kernel_rfl
    have H1 := SyC.one _ _ hs
    have HS := hideR hs
    clear hs own
    have HO : ∀ w : World, (w.alloc (.cells #[] 56)).ownsRow w.heap.size 56 3 (.slice (some ⟨w.heap.size, 0, none⟩) 0 0) 0 [] := fun w => World.ownsRow_made w #[] 0 (Nat.le_refl _) (Nat.zero_le _) rfl
    have hcl' : cs.length = l.length * 3 := by omega
    clear hcl
    go_enter Tryz.func166, Tryz.ntmps166
    go_wp2_with (at_builtin; refine wpList_append_own _ rfl _ _ 46 rfl w.heap.size 56 i0 _ 3 40 Tryz.underlying46 hi0 hz0 hz1 hz2 rfl (by omega) _ _ _ rfl (HO w) ad l.length c cs rfl hcl' (HN _) H1 (by unfold maxLen; omega) (by omega) (by simp) ?_; intro v' w6 hown1 hgrow hnil)
    go_ret
    rw [Nat.zero_add, List.nil_append] at hown1
    have hg2 : (w.alloc (.cells #[] 56)).grownBy w6 (some w.heap.size) := hgrow
    have B6 : Below w.heap.size w w6 := (Below.new1 _).grown hg2 (by simp) (fun k hk => by injection hk; omega)
    exact ⟨v', rfl, ⟨h41, cs, hown1, SyC.kr (KR.of B6) _ _ (unhideR HS)⟩, B6⟩
set_option maxRecDepth 20000 in
set_option maxHeartbeats 4000000 in
theorem copied_l {B : Nat} (v : Value) (l : List SY) (w : World) (h : LV w B v l) (hsm : smS l) :
    Calls Tryz.prog 134 #[v] w fun e w' => ∃ v', e = .returned v' ∧ LV w' w.heap.size v' l ∧ Below w.heap.size w w' := by
  have C1 := hideR (cloneS_l v l w h)
  obtain ⟨a, c, rfl⟩ := h.form
  have h41 := h.1
  have HSM := hideR hsm
  clear h hsm
  generalize hn : l.length = n at *
  have HN := hideR hn
  clear hn
  go_enter Tryz.func134, Tryz.ntmps134
  go_wp2_with fail
  refine (unhideR C1).mono ?_
  clear C1
  rintro e w1 ⟨v1, rfl, lv1, b1⟩
  obtain ⟨a1, c1, rfl⟩ := lv1.form
  rw [unhideR HN] at lv1 ⊢
  have hcap : n ≤ c1 ∧ c1 ≤ maxLen := by
    obtain ⟨-, cs, own, -⟩ := lv1
    rw [unhideR HN] at own
    rcases own.2 with ⟨e, h0⟩ | ⟨g, cap, cur, e, hb, hg, k1, k2, -⟩
    · injection e with e1 e2 e3; subst e3; unfold maxLen; omega
    · injection e with e1 e2 e3; subst e3; exact ⟨k1, k2⟩
  obtain ⟨hc1, hc2⟩ := hcap
  unfold maxLen at hc2
  have LV1 := hideR lv1
  have B1 := hideR b1
  have s1 := b1.size
  clear lv1 b1
  go_wp2_with fail
  go_loopw [8] (fun i wr => ∃ (j : Nat), j ≤ n ∧ i = .int .i64 (j : Int) ∧ Hid (LV wr w.heap.size (.slice a1 n c1) l) ∧ Hid (Below w.heap.size w wr) ∧ w.heap.size ≤ wr.heap.size) (fun i _ => n - (intOf i).toNat)
  case atStart => exact ⟨0, Nat.zero_le _, rfl, LV1, B1, s1⟩
  case round =>
    obtain ⟨j, hj, rfl, hL, hB, hsw⟩ := hrel
    by_cases hlt : j < n
    · obtain ⟨k41, cs, own, hs⟩ := unhideR hL
      obtain ⟨s, a2, c2, hm, hd, q0, q1, q2, hr, hy, hset⟩ := SyC.at l cs j hs (by rw [unhideR HN]; exact hlt)
      obtain ⟨g, e1, cg, fg⟩ := own_cell own q1
      have e2 : a1 = some ⟨g, 0, none⟩ := by
        rcases own.2 with ⟨e, h0⟩ | ⟨g', cap, cur, e, -⟩
        · rw [unhideR HN] at h0; omega
        · injection e with e1' e2 e3
          subst e1'
          simp only [Value.ownBlock, Option.some.injEq] at e1
          rw [e1]
      subst e2
      have hgl : g < wr.heap.size := (own.lt g e1).2
      have hgB : w.heap.size ≤ g := (own.lt g e1).1
      obtain ⟨gc, hgc⟩ := own_blk own g e1
      have CC := hideR (fun W (bW : Below wr.heap.size wr W) => cloneR_l a2 c2 s.2.1 W (hr.later bW (Nat.le_refl _)) (unhideR HSM s hm))
      have NXT := hideR (fun (w2 : World) (b2 : Below wr.heap.size wr w2) (a' : Option Addr) (c' : Nat) (hr' : Rs w2 a' s.2.1.length c' s.2.1) (hy' : Ty w2 a') => show LV (w2.setCell ⟨g, 3 * j + 1, none⟩ (.slice a' s.2.1.length c')) w.heap.size (.slice (some ⟨g, 0, none⟩) n c1) l from by
        have k2 : KR w2 (w2.setCell ⟨g, 3 * j + 1, none⟩ (.slice a' s.2.1.length c')) := KR.set (KR.refl _) ((b2.block g hgl).trans hgc) (by decide) _ _
        obtain ⟨r1, r2⟩ := rs_kr k2 hr' hy'
        refine ⟨k41, _, own_set (ownL b2 own) e1 ?_ _, hset _ a' c' ((KR.of b2).then k2) r1 r2⟩
        exact (List.getElem?_eq_some_iff.1 q1).1)
      have FZ := hideR (fun (w2 : World) (b2 : Below wr.heap.size wr w2) => show w2.cell? ⟨g, 3 * j + 1, none⟩ = some (.slice a2 s.2.1.length c2) ∧ w2.frozen? ⟨g, 3 * j + 1, none⟩ = false from by
        obtain ⟨g', e', c', f'⟩ := own_cell (ownL b2 own) q1
        rw [e1] at e'; injection e' with e'; subst e'
        exact ⟨c', f'⟩)
      have n3 : j * 3 = 3 * j := by omega
      generalize hR : s.2.1 = R at *
      generalize hRn : R.length = rn at *
      have HRN := hideR hRn
      clear own hs hd q0 q1 q2 hr hy hset hgc fg e1 hm hR hRn
      go_wp2_with fail
      refine (unhideR CC _ (Below.refl _ _)).mono ?_
      clear CC
      rintro e w2 ⟨a3, c3, rfl, r3, y3, b2⟩
      obtain ⟨cg2, fg2⟩ := unhideR FZ w2 b2
      have NX := hideR (unhideR NXT w2 b2 a3 c3 r3 y3)
      have hgl2 : g < w2.heap.size := Nat.lt_of_lt_of_le hgl b2.size
      have BB := hideR (show Below w.heap.size w (w2.setCell ⟨g, 3 * j + 1, none⟩ (.slice a3 rn c3)) from ((unhideR hB).trans (b2.mono hsw)).setCell (p := ⟨g, 3 * j + 1, none⟩) hgB _)
      have s2 : w.heap.size ≤ (w2.setCell ⟨g, 3 * j + 1, none⟩ (.slice a3 rn c3)).heap.size := (unhideR BB).size
      clear NXT FZ r3 y3 b2 hL hB
      go_wp2_with fail
      go_roundw
      case rel => exact ⟨j + 1, by omega, by simp, NX, BB, s2⟩
      case measure => simp [intOf]; omega
    · obtain rfl : j = n := by omega
      go_wp2_with fail
      go_ret
      exact ⟨_, rfl, unhideR hL, unhideR hB⟩
end Go.Proofs.YtamefbpdnblbdaaGreatDoor.F

namespace Go.Proofs.YtamefbpdnblbdaaGreatDoor.F
open Go.RowKit Go.Proofs.YtamefbpdnblbdaaGreatDoor.T Go.Proofs.YtamefbpdnblbdaaGreatDoor.R
set_option linter.unusedVariables false
set_option linter.unusedSimpArgs false

def byB (l : List (Int × Int)) : Bool := decide (l.length = 0) || decide ((l.getD (l.length - 1) (0, 0)).2 ≤ 255)
def symB (s : SY) (many : Int) : Bool :=
  if s.1 = 0 then decide (s.2.2 = 0) && (G.mayB s.2.1 && byB s.2.1)
  else if s.1 = 1 then decide (s.2.2 = 0) && G.mayB s.2.1
  else if s.1 = 2 then decide (0 ≤ s.2.2) && (decide (s.2.2 < many) && decide (s.2.1.length = 0))
  else false
def prodB (p : PRD) (many : Int) : Bool := fitsB p.1 && (decide (0 ≤ p.2.1) && (decide (p.2.1 ≤ 63) && (G.mayB p.2.2 && p.1.all fun l => l.all fun s => symB s many)))
def gramB (l : List PRD) : Bool := decide (1 ≤ l.length) && (decide (l.length ≤ 60) && l.all fun p => prodB p l.length)
set_option maxRecDepth 20000 in
set_option maxHeartbeats 1000000 in
theorem ofBytes_l (a : Option Addr) (c : Nat) (l : List (Int × Int)) (w : World) (h : Rs w a l.length c l) :
    Calls Tryz.prog 107 #[.slice a l.length c] w fun e w' => e = .returned (.bool (byB l)) ∧ w' = w := by
  have hc := h.hcap
  have hm := h.hmax
  unfold maxLen at hm
  unfold byB
  by_cases h0 : l.length = 0
  · have b0 : ((l.length : Int) == 0) = true := by rw [h0]; rfl
    rw [decide_eq_true h0]
    clear h
    generalize l.length = n at *
    clear h0
    go_enter Tryz.func107, Tryz.ntmps107
    go_wp2_with fail
    go_ret
    exact ⟨rfl, rfl⟩
  · have b0 : ((l.length : Int) == 0) = false := beq_eq_false_iff_ne.2 (by omega)
    rw [decide_eq_false h0]
    obtain ⟨g, off, e, -, q2⟩ := h.hcell (l.length - 1) (by omega)
    subst e
    have hg : g < w.heap.size := block_lt' q2
    clear h
    have hx : ((l.length : Int) - 1) = ((l.length - 1 : Nat) : Int) := by omega
    have h1 : l.length - 1 < l.length := by omega
    generalize hi : l.length - 1 = i at *
    generalize (l.getD i (0, 0)).2 = H at *
    generalize l.length = n at *
    have HX := hideR hx
    clear hx hi
    have i2 : i * 2 = 2 * i := by omega
    rw [i2] at q2
    have ev : (n : Int) - 1 = (i : Int) := unhideR HX
    clear HX
    go_enter Tryz.func107, Tryz.ntmps107
    go_wp2_with fail
    go_ret
    exact ⟨by simp, rfl⟩
set_option maxRecDepth 20000 in
set_option maxHeartbeats 2000000 in
theorem maySym_l (s : SY) (a : Option Addr) (c : Nat) (many : Int) (w : World) (h : Rs w a s.2.1.length c s.2.1) :
    Calls Tryz.prog 65 #[.agg #[.int .i64 s.1, .slice a s.2.1.length c, .int .i64 s.2.2], .int .i64 many] w fun e w' => e = .returned (.bool (symB s many)) ∧ Below w.heap.size w w' := by
  have B1 : ∀ o, Below w.heap.size w (w.alloc o) := fun o => Below.new1 o
  have CM := hideR (fun W (bW : Below w.heap.size w W) => rgMay_any a s.2.1.length c s.2.1 W (h.later bW (Nat.le_refl _)))
  have CB := hideR (fun W (bW : Below w.heap.size w W) => ofBytes_l a c s.2.1 W (h.later bW (Nat.le_refl _)))
  obtain ⟨k, R, N⟩ := s
  simp only at h CM CB ⊢
  have hc := h.hcap
  have hm := h.hmax
  unfold maxLen at hm
  unfold symB
  simp only
  clear h
  generalize G.mayB R = rm at *
  generalize byB R = rb at *
  generalize R.length = n at *
  by_cases hk0 : k = 0
  · have hk := hk0
    clear hk0
    rw [if_pos hk]
    have bk : (k == 0) = true := by rw [hk]; rfl
    clear hk
    by_cases hN : N = 0
    · have bn : (N == 0) = true := by rw [hN]; rfl
      rw [decide_eq_true hN]
      clear hN
      cases rm with
      | false =>
        clear CB
        go_enter Tryz.func65, Tryz.ntmps65
        go_wp2_with fail
        refine (unhideR CM _ (B1 _)).mono ?_
        rintro e w1 ⟨rfl, b1⟩
        clear CM
        go_wp2_with fail
        go_ret
        exact ⟨by simp, bthen (B1 _) b1⟩
      | true =>
        go_enter Tryz.func65, Tryz.ntmps65
        go_wp2_with fail
        refine (unhideR CM _ (B1 _)).mono ?_
        rintro e w1 ⟨rfl, b1⟩
        clear CM
        obtain ⟨⟨x0, x1, x2⟩, -⟩ := cells3 (kept_new b1)
        go_wp2_with fail
        refine (unhideR CB _ (bthen (B1 _) b1)).mono ?_
        rintro e w2 ⟨rfl, hw2⟩
        subst hw2
        clear CB
        go_wp2_with fail
        go_ret
        exact ⟨by simp, bthen (B1 _) b1⟩
    · have bn : (N == 0) = false := beq_eq_false_iff_ne.2 hN
      rw [decide_eq_false hN]
      clear hN CM CB
      go_enter Tryz.func65, Tryz.ntmps65
      go_wp2_with fail
      go_ret
      exact ⟨by simp, B1 _⟩
  · by_cases hk1 : k = 1
    · have hk := hk1
      clear hk1
      rw [if_neg hk0, if_pos hk]
      have bk0 : (k == 0) = false := beq_eq_false_iff_ne.2 hk0
      have bk : (k == 1) = true := by rw [hk]; rfl
      clear hk hk0
      by_cases hN : N = 0
      · have bn : (N == 0) = true := by rw [hN]; rfl
        rw [decide_eq_true hN]
        clear hN CB
        go_enter Tryz.func65, Tryz.ntmps65
        go_wp2_with fail
        refine (unhideR CM _ (B1 _)).mono ?_
        rintro e w1 ⟨rfl, b1⟩
        clear CM
        go_wp2_with fail
        go_ret
        exact ⟨by simp, bthen (B1 _) b1⟩
      · have bn : (N == 0) = false := beq_eq_false_iff_ne.2 hN
        rw [decide_eq_false hN]
        clear hN CM CB
        go_enter Tryz.func65, Tryz.ntmps65
        go_wp2_with fail
        go_ret
        exact ⟨by simp, B1 _⟩
    · by_cases hk : k = 2
      · rw [if_neg hk0, if_neg hk1, if_pos hk]
        have bk0 : (k == 0) = false := beq_eq_false_iff_ne.2 hk0
        have bk1 : (k == 1) = false := beq_eq_false_iff_ne.2 hk1
        have bk : (k == 2) = true := by rw [hk]; rfl
        clear hk hk0 hk1 CM CB
        by_cases hN : 0 ≤ N
        · have bn : decide (0 ≤ N) = true := decide_eq_true hN
          rw [bn]
          by_cases hM : N < many
          · have bm : decide (N < many) = true := decide_eq_true hM
            rw [bm]
            clear hN hM
            have e0 : decide (n = 0) = ((n : Int) == 0) := by by_cases h : n = 0 <;> simp [h]
            rw [e0]
            go_enter Tryz.func65, Tryz.ntmps65
            go_wp2_with fail
            go_ret
            exact ⟨by simp, B1 _⟩
          · have bm : decide (N < many) = false := decide_eq_false hM
            rw [bm]
            clear hN hM
            go_enter Tryz.func65, Tryz.ntmps65
            go_wp2_with fail
            go_ret
            exact ⟨by simp, B1 _⟩
        · have bn : decide (0 ≤ N) = false := decide_eq_false hN
          rw [bn]
          clear hN
          go_enter Tryz.func65, Tryz.ntmps65
          go_wp2_with fail
          go_ret
          exact ⟨by simp, B1 _⟩
      · rw [if_neg hk0, if_neg hk1, if_neg hk]
        have bk0 : (k == 0) = false := beq_eq_false_iff_ne.2 hk0
        have bk1 : (k == 1) = false := beq_eq_false_iff_ne.2 hk1
        have bk : (k == 2) = false := beq_eq_false_iff_ne.2 hk
        clear hk hk0 hk1 CM CB
        go_enter Tryz.func65, Tryz.ntmps65
        go_wp2_with fail
        go_ret
        exact ⟨rfl, B1 _⟩

theorem syms_at {D : Nat → Prop} {w : World} {x : Option Addr} {cc n : Nat} {l : List SY} (h : SymsV D w (.slice x n cc) l) (j : Nat) (hj : j < l.length) : ∃ g off s a c, x = some ⟨g, off, none⟩ ∧ g < w.heap.size ∧ w.cell? ⟨g, off + 3 * j, none⟩ = some (.int .i64 s.1) ∧ w.cell? ⟨g, off + 3 * j + 1, none⟩ = some (.slice a s.2.1.length c) ∧ w.cell? ⟨g, off + 3 * j + 2, none⟩ = some (.int .i64 s.2.2) ∧ Rs w a s.2.1.length c s.2.1 ∧ Ty w a ∧ l.drop j = s :: l.drop (j + 1) ∧ s ∈ l := by
  obtain ⟨a', c', cs, e, hr, hs⟩ := h
  injection e with e1 e2 e3
  subst e1; subst e3
  obtain ⟨s, a, c, hm, hd, h0, h1, h2, hrs, hty, -⟩ := SyC.at l cs j hs hj
  obtain ⟨g, off, ha, -, q0⟩ := hr.cell h0
  have key : ∀ i u, cs[3 * j + i]? = some u → w.cell? ⟨g, off + 3 * j + i, none⟩ = some u := fun i u hu => by
    obtain ⟨g', off', ha', -, q⟩ := hr.cell hu
    rw [ha] at ha'
    injection ha' with ha'
    injection ha' with e1 e2
    subst e1; subst e2
    rw [Nat.add_assoc]; exact q
  exact ⟨g, off, s, a, c, ha, block_lt' q0, q0, key 1 _ h1, key 2 _ h2, hrs, hty, hd, hm⟩
theorem SymsV.form {D : Nat → Prop} {w : World} {x : Option Addr} {n cc : Nat} {l : List SY} (h : SymsV D w (.slice x n cc) l) : n = l.length ∧ l.length ≤ cc ∧ cc ≤ maxLen := by
  obtain ⟨a', c', cs, e, hr, hs⟩ := h
  injection e with e1 e2 e3
  subst e3
  exact ⟨e2, hr.1, hr.2.1⟩
set_option maxRecDepth 20000 in
set_option maxHeartbeats 8000000 in
theorem mayProd_l {D : Nat → Prop} (p : PRD) (v0 v2 : Value) (many : Int) (w : World) (ha : AltV D w v0 p.1) (hn : NotV w v2 p.2.2) :
    Calls Tryz.prog 31 #[.agg #[v0, .int .i64 p.2.1, v2], .int .i64 many] w fun e w' => e = .returned (.bool (prodB p many)) ∧ Below w.heap.size w w' := by
  have B1 : ∀ o, Below w.heap.size w (w.alloc o) := fun o => Below.new1 o
  obtain ⟨A, mk, N⟩ := p
  simp only at ha hn ⊢
  obtain ⟨aN, cN, rfl, rN, yN⟩ := hn
  have CF := hideR (fun W (bW : Below w.heap.size w W) => ffits_l v0 A W (ha.kp (Kp.of bW)))
  have CM := hideR (fun W (bW : Below w.heap.size w W) => rgMay_any aN N.length cN N W (rN.later bW (Nat.le_refl _)))
  obtain ⟨a0, c0, rfl, hc0, hc1⟩ := ha.form
  unfold maxLen at hc1
  have HA := hideR ha
  clear ha rN yN
  unfold prodB
  simp only
  generalize hTT : (A.all fun l => l.all fun s => symB s many) = TT at *
  have HTT := hideR hTT
  clear hTT
  generalize fitsB A = fb at *
  generalize G.mayB N = mb at *
  generalize N.length = nN at *
  generalize hnA : A.length = nA at *
  have HNA := hideR hnA
  clear hnA
  cases fb with
  | false =>
    clear CM
    go_enter Tryz.func31, Tryz.ntmps31
    go_wp2_with fail
    refine (unhideR CF _ (B1 _)).mono ?_
    rintro e w1 ⟨rfl, hw1⟩
    subst hw1
    clear CF
    go_wp2_with fail
    go_ret
    exact ⟨by simp, B1 _⟩
  | true =>
    by_cases h0 : 0 ≤ mk
    · by_cases h63 : mk ≤ 63
      · have b1 : decide (mk < 0) = false := decide_eq_false (by omega)
        have b2 : decide (63 < mk) = false := decide_eq_false (by omega)
        rw [decide_eq_true h0, decide_eq_true h63]
        clear h0 h63
        cases mb with
        | false =>
          go_enter Tryz.func31, Tryz.ntmps31
          go_wp2_with fail
          refine (unhideR CF _ (B1 _)).mono ?_
          rintro e w1 ⟨rfl, hw1⟩
          subst hw1
          clear CF
          go_wp2_with fail
          refine (unhideR CM _ (B1 _)).mono ?_
          rintro e w1 ⟨rfl, b1⟩
          clear CM
          go_wp2_with fail
          go_ret
          exact ⟨by simp, bthen (B1 _) b1⟩
        | true =>
          go_enter Tryz.func31, Tryz.ntmps31
          go_wp2_with fail
          refine (unhideR CF _ (B1 _)).mono ?_
          rintro e w1 ⟨rfl, hw1⟩
          subst hw1
          clear CF
          go_wp2_with fail
          refine (unhideR CM _ (B1 _)).mono ?_
          rintro e w1 ⟨rfl, b1⟩
          clear CM
          have BB := hideR (bthen (B1 _) b1)
          have s1 := (unhideR BB).size
          obtain ⟨⟨x0, x1, x2⟩, -⟩ := cells3 (kept_new b1)
          clear b1
          go_wp2_with fail
          go_loopw [32] (fun i wr => ∃ (j : Nat), j ≤ nA ∧ i = .int .i64 (j : Int) ∧ Hid ((A.all fun l => l.all fun s => symB s many) = ((A.drop j).all fun l => l.all fun s => symB s many)) ∧ Hid (Below w.heap.size w wr) ∧ w.heap.size ≤ wr.heap.size) (fun i _ => nA - (intOf i).toNat)
          case atStart => exact ⟨0, Nat.zero_le _, rfl, rfl, BB, s1⟩
          case round =>
            obtain ⟨j, hj, rfl, hO, hBo, hso⟩ := hrel
            by_cases hlt2 : j < nA
            · have HA1 := (unhideR HA).kp (Kp.of (unhideR hBo))
              rw [← unhideR HNA] at HA1
              obtain ⟨g, off, x, cc, l, rfl, hg, q, hd, hsv⟩ := HA1.at j (by rw [unhideR HNA]; exact hlt2)
              have HD2 := hideR hd
              have HSV := hideR hsv
              obtain ⟨-, hcc1, hcc2⟩ := hsv.form
              unfold maxLen at hcc2
              clear HA1 hd hsv
              generalize hWr : wr = W4 at *
              clear hWr
              go_wp2_with fail
              go_loopw [38] (fun i wr => ∃ (k : Nat), k ≤ l.length ∧ i = .int .i64 (k : Int) ∧ Hid (l.all (fun s => symB s many) = (l.drop k).all fun s => symB s many) ∧ Hid (Below W4.heap.size W4 wr) ∧ W4.heap.size ≤ wr.heap.size) (fun i _ => l.length - (intOf i).toNat)
              case atStart => exact ⟨0, Nat.zero_le _, rfl, rfl, Below.refl _ _, Nat.le_refl _⟩
              case round =>
                obtain ⟨k, hk, rfl, hI, hB2, hs2⟩ := hrel
                by_cases hlt3 : k < l.length
                · obtain ⟨gs, os, s, a3, c3, rfl, hgs, q0, q1, q2, rs3, ty3, hd3, hm3⟩ := syms_at ((unhideR HSV).kp (Kp.of (unhideR hB2))) k hlt3
                  have HD3 := hideR hd3
                  have CY := hideR (fun W (bW : Below wr.heap.size wr W) => maySym_l s a3 c3 many W (rs3.later bW (Nat.le_refl _)))
                  have k3 : k * 3 = 3 * k := by omega
                  have STEP : Hid (l.all (fun s => symB s many) = (symB s many && (l.drop (k + 1)).all fun s => symB s many)) := by show _ = _; rw [unhideR hI, unhideR HD3]; rfl
                  clear rs3 ty3 hd3 hm3 hI
                  generalize s.1 = s1 at *
                  generalize s.2.2 = s2 at *
                  generalize s.2.1.length = s3 at *
                  have BN := fun o => Below.new1 (w := wr) o
                  cases hsb : symB s many with
                  | false =>
                    rw [hsb] at CY
                    have FIN : Hid (TT = false) := by
                      show _ = _
                      rw [← unhideR HTT, unhideR hO, unhideR HD2]
                      simp only [List.all_cons]
                      rw [unhideR STEP, hsb]; rfl
                    clear hsb STEP
                    go_wp2_with fail
                    refine (unhideR CY _ (BN _)).mono ?_
                    rintro e w4 ⟨rfl, b4⟩
                    clear CY
                    go_wp2_with fail
                    go_ret
                    exact ⟨by rw [unhideR FIN]; simp, (unhideR hBo).trans ((unhideR hB2).mono hso |>.trans ((bthen (BN _) b4).mono (Nat.le_trans hso (unhideR hB2).size)))⟩
                  | true =>
                    rw [hsb] at CY
                    have NXT : Hid (l.all (fun s => symB s many) = (l.drop (k + 1)).all fun s => symB s many) := by show _ = _; rw [unhideR STEP, hsb]; rfl
                    clear hsb STEP
                    go_wp2_with fail
                    refine (unhideR CY _ (BN _)).mono ?_
                    rintro e w4 ⟨rfl, b4⟩
                    clear CY
                    have B4 := hideR (bthen (unhideR hB2) (bthen (BN _) b4))
                    have s4 := (unhideR B4).size
                    clear b4
                    go_wp2_with fail
                    go_roundw
                    case rel => exact ⟨k + 1, by omega, by simp, NXT, B4, s4⟩
                    case measure => simp [intOf]; omega
                · obtain rfl : k = l.length := by omega
                  have NXT : Hid (TT = ((A.drop (j + 1)).all fun l => l.all fun s => symB s many)) := by
                    show _ = _
                    rw [← unhideR HTT, unhideR hO, unhideR HD2]
                    simp only [List.all_cons]
                    rw [unhideR hI, List.drop_eq_nil_of_le (Nat.le_refl _)]; rfl
                  have B5 := hideR ((unhideR hBo).trans ((unhideR hB2).mono hso))
                  have s5 := (unhideR B5).size
                  go_wp2_with fail
                  go_roundw
                  case rel => exact ⟨j + 1, by omega, by simp, by show _ = _; rw [unhideR HTT]; exact unhideR NXT, B5, s5⟩
                  case measure => simp [intOf]; omega
            · obtain rfl : j = nA := by omega
              have FIN : Hid (TT = true) := by
                show _ = _
                rw [← unhideR HTT, unhideR hO, List.drop_eq_nil_of_le (by rw [unhideR HNA]; exact Nat.le_refl _)]; rfl
              go_wp2_with fail
              go_ret
              exact ⟨by rw [unhideR FIN]; simp, unhideR hBo⟩
      · have b1 : decide (mk < 0) = false := decide_eq_false (by omega)
        have b2 : decide (63 < mk) = true := decide_eq_true (by omega)
        rw [decide_eq_true h0, decide_eq_false h63]
        clear CM h0 h63
        go_enter Tryz.func31, Tryz.ntmps31
        go_wp2_with fail
        refine (unhideR CF _ (B1 _)).mono ?_
        rintro e w1 ⟨rfl, hw1⟩
        subst hw1
        clear CF
        go_wp2_with fail
        go_ret
        exact ⟨by simp, B1 _⟩
    · have b1 : decide (mk < 0) = true := decide_eq_true (by omega)
      rw [decide_eq_false h0]
      clear CM h0
      go_enter Tryz.func31, Tryz.ntmps31
      go_wp2_with fail
      refine (unhideR CF _ (B1 _)).mono ?_
      rintro e w1 ⟨rfl, hw1⟩
      subst hw1
      clear CF
      go_wp2_with fail
      go_ret
      exact ⟨by simp, B1 _⟩
end Go.Proofs.YtamefbpdnblbdaaGreatDoor.F

namespace Go.Proofs.YtamefbpdnblbdaaGreatDoor.F
open Go.Proofs.YtamefbpdnblbdaaGreatDoor.T Go.Proofs.YtamefbpdnblbdaaGreatDoor.R
set_option linter.unusedVariables false
set_option linter.unusedSimpArgs false

theorem stop_len (s : Mk) (q y : Int) : (s.stop q y).made.length = s.made.length := by unfold Mk.stop; split <;> rfl
theorem fin_len (s : Mk) (n : Nat) (q : Int) (A : List (List SY)) : (s.fin n q A).made.length = s.made.length := by
  unfold Mk.fin
  split
  · simp [setA_len]
  · simp [setA_len, stop_len]
def Mono (f : PF) : Prop := ∀ m l p, m.made.length ≤ (f m l p).1.made.length ∧ (m.made.length ≤ 60 → (f m l p).1.made.length ≤ 60)
theorem call_mono (ns : List (List Int)) : Mono (callS ns) := by
  intro m l p
  unfold callS
  split
  · exact ⟨Nat.le_refl _, id⟩
  · simp [stop_len]
theorem seq_mono {f : PF} (hf : Mono f) : ∀ (ps : List PT) (m : Mk) (l : List SY), m.made.length ≤ (seqM f ps m l).1.made.length ∧ (m.made.length ≤ 60 → (seqM f ps m l).1.made.length ≤ 60) := by
  intro ps
  induction ps with
  | nil => intro m l; exact ⟨Nat.le_refl _, id⟩
  | cons p ps ih =>
    intro m l
    unfold seqM
    split
    · exact ⟨Nat.le_refl _, id⟩
    · have h1 := hf m l p
      have h2 := ih (f m l p).1 (f m l p).2
      exact ⟨Nat.le_trans h1.1 h2.1, fun h => h2.2 (h1.2 h)⟩
theorem each_mono {f : PF} (hf : Mono f) : ∀ (ps : List PT) (m : Mk) (a : List (List SY)), m.made.length ≤ (eachM f ps m a).1.made.length ∧ (m.made.length ≤ 60 → (eachM f ps m a).1.made.length ≤ 60) := by
  intro ps
  induction ps with
  | nil => intro m a; exact ⟨Nat.le_refl _, id⟩
  | cons p ps ih =>
    intro m a
    unfold eachM
    split
    · exact ⟨Nat.le_refl _, id⟩
    · have h1 := hf m [] p
      have h2 := ih (f m [] p).1 (if a.length ≤ 8 then a ++ [(f m [] p).2] else a)
      exact ⟨Nat.le_trans h1.1 h2.1, fun h => h2.2 (h1.2 h)⟩
theorem only_mono {f : PF} (hf : Mono f) (p : PT) (m : Mk) : m.made.length ≤ (onlyM f p m).1.made.length ∧ (m.made.length ≤ 60 → (onlyM f p m).1.made.length ≤ 60) := by
  unfold onlyM
  split
  · exact hf m [] _
  · simp [stop_len]
theorem alts_mono {f : PF} (hf : Mono f) (p : PT) (n : Nat) (m : Mk) : m.made.length ≤ (altsM f p n m).1.made.length ∧ (m.made.length ≤ 60 → (altsM f p n m).1.made.length ≤ 60) := by
  unfold altsM
  split
  · exact each_mono hf _ _ _
  · split
    · exact only_mono hf p m
    · split
      · exact only_mono hf p m
      · exact only_mono hf p m
theorem anew_mono {f : PF} (hf : Mono f) : Mono (anewM f) := by
  intro m l p
  unfold anewM
  split
  · simp [stop_len]
  · rename_i h60
    have h := alts_mono hf p m.made.length ⟨m.made ++ [([], 0, [])], m.left, m.pl, m.why⟩
    simp only [List.length_append, List.length_cons, List.length_nil, Nat.zero_add] at h
    simp only [fin_len]
    exact ⟨by omega, fun h6 => h.2 (by omega)⟩
theorem way_mono (ns : List (List Int)) {f : PF} (hf : Mono f) : Mono (wayM ns f) := by
  intro m l p
  unfold wayM
  split
  · exact call_mono ns m l p
  · split
    · exact ⟨Nat.le_refl _, id⟩
    · split
      · exact ⟨Nat.le_refl _, id⟩
      · split
        · exact ⟨Nat.le_refl _, id⟩
        · split
          · exact seq_mono hf _ _ _
          · exact anew_mono hf m l p
theorem part_mono (ns : List (List Int)) : ∀ (n : Nat) (d : Int), Mono (partM ns n d) := by
  intro n
  induction n with
  | zero => intro d m l p; exact ⟨Nat.le_refl _, id⟩
  | succ n ih =>
    intro d m l p
    unfold partM
    split
    · simp [stop_len]
    · exact way_mono ns (ih (d + 1)) ⟨m.made, m.left - 1, m.pl, m.why⟩ l p
def Sm (n : Nat) (f : PF) : Prop := ∀ m l p, smP n p → smS l → smS (f m l p).2
theorem put_sm {l : List SY} (h : smS l) {s : SY} (hs : s.2.1.length ≤ 1000000) : smS (putS l s) := by
  unfold putS
  split
  · exact h
  · intro x hx
    rcases List.mem_append.1 hx with c | c
    · exact h x c
    · simp at c; subst c; exact hs
theorem text_sm : ∀ (t : List Int) (l : List SY), smS l → smS (textS t l) := by
  intro t
  induction t with
  | nil => intro l h; exact h
  | cons c t ih =>
    intro l h
    unfold textS
    split
    · exact h
    · exact ih _ (put_sm h (by simp))
theorem seq_sm {n : Nat} {f : PF} (hf : Sm n f) : ∀ (ps : List PT) (m : Mk) (l : List SY), (∀ x ∈ ps, smP n x) → smS l → smS (seqM f ps m l).2 := by
  intro ps
  induction ps with
  | nil => intro m l _ h; exact h
  | cons p ps ih =>
    intro m l hp h
    unfold seqM
    split
    · exact h
    · exact ih _ _ (fun x hx => hp x (List.mem_cons_of_mem _ hx)) (hf m l p (hp p (List.mem_cons_self ..)) h)
theorem nil_sm : smS [] := fun s h => by cases h
theorem way_sm (ns : List (List Int)) {n : Nat} {f : PF} (hf : Sm n f) : Sm (n + 1) (wayM ns f) := by
  intro m l p hp hl
  obtain ⟨h1, h2, h3, h4⟩ := hp
  unfold wayM
  split
  · unfold callS
    split
    · exact put_sm hl (by simp)
    · exact put_sm hl (by simp)
  · split
    · exact text_sm _ _ hl
    · split
      · exact put_sm hl h2
      · split
        · exact put_sm hl h2
        · split
          · exact seq_sm hf _ _ _ h4 hl
          · unfold anewM
            split
            · exact hl
            · exact put_sm hl (by simp)
theorem part_sm (ns : List (List Int)) : ∀ (n : Nat) (d : Int), Sm n (partM ns n d) := by
  intro n
  induction n with
  | zero => intro d m l p _ h; exact h
  | succ n ih =>
    intro d m l p hp h
    unfold partM
    split
    · exact h
    · exact way_sm ns (ih (d + 1)) _ l p hp h
theorem only_sm (ns : List (List Int)) (n : Nat) (d : Int) (p : PT) (m : Mk) (h : smP (n + 1) p) : smS (onlyM (partM ns n d) p m).2 := by
  unfold onlyM
  split
  · rename_i x e
    exact part_sm ns n d m [] x (h.2.2.2 x (by rw [e]; simp)) nil_sm
  · exact nil_sm
end Go.Proofs.YtamefbpdnblbdaaGreatDoor.F

namespace Go.Proofs.YtamefbpdnblbdaaGreatDoor.F
open Go.Proofs.YtamefbpdnblbdaaGreatDoor.T Go.Proofs.YtamefbpdnblbdaaGreatDoor.R
set_option linter.unusedSimpArgs false
set_option linter.unusedVariables false

def symsOk (k : Nat) (l : List SY) : Prop := ∀ s ∈ l, symB s (k : Int) = true
def prdOk (k : Nat) (p : PRD) : Prop := (0 ≤ p.2.1 ∧ p.2.1 ≤ 63) ∧ G.mayB p.2.2 = true ∧ ∀ l ∈ p.1, symsOk k l
def madeOk (k : Nat) (m : List PRD) : Prop := ∀ p ∈ m, prdOk k p
theorem symB_mono {s : SY} {k k' : Nat} (h : k ≤ k') (hs : symB s (k : Int) = true) : symB s (k' : Int) = true := by
  unfold symB at hs ⊢
  split at hs
  · next c => rw [if_pos c]; exact hs
  · next c =>
    rw [if_neg c]
    split at hs
    · next d => rw [if_pos d]; exact hs
    · next d =>
      rw [if_neg d]
      split at hs
      · next e =>
        rw [if_pos e]
        simp only [Bool.and_eq_true, decide_eq_true_eq] at hs ⊢
        exact ⟨hs.1, by omega, hs.2.2⟩
      · cases hs
theorem symsOk.mono {k k' : Nat} (h : k ≤ k') {l : List SY} (hl : symsOk k l) : symsOk k' l := fun s hs => symB_mono h (hl s hs)
theorem prdOk.mono {k k' : Nat} (h : k ≤ k') {p : PRD} (hp : prdOk k p) : prdOk k' p := ⟨hp.1, hp.2.1, fun l hl => (hp.2.2 l hl).mono h⟩
theorem madeOk.mono {k k' : Nat} (h : k ≤ k') {m : List PRD} (hm : madeOk k m) : madeOk k' m := fun p hp => (hm p hp).mono h
theorem putS_ok {k : Nat} {l : List SY} {s : SY} (hl : symsOk k l) (hs : symB s (k : Int) = true) : symsOk k (putS l s) := by
  unfold putS
  split
  · exact hl
  · intro x hx
    rcases List.mem_append.1 hx with c | c
    · exact hl x c
    · simp at c; subst c; exact hs
theorem non_ok {n k : Nat} (h : n < k) : symB (2, [], (n : Int)) (k : Int) = true := by
  unfold symB
  simp
  omega
structure Post (lo hi : Int) (s s' : Mk) : Prop where
  len : s.made.length ≤ s'.made.length
  le60 : s.made.length ≤ 60 → s'.made.length ≤ 60
  tails : ∃ k, s'.made.map (·.2) = s.made.map (·.2) ++ List.replicate k ((0 : Int), ([] : List (Int × Int)))
  bad : s.why ≠ 0 → s'.why = s.why ∧ s'.pl = s.pl
  why : s.why = 0 → s'.why = 0 ∨ ((lo ≤ s'.pl ∧ s'.pl ≤ hi) ∧ (s'.why = 5 ∨ s'.why = 7))
  old : ∀ i, i < s.made.length → s'.made[i]? = s.made[i]?
  new : s'.why = 0 → ∀ i p, s.made.length ≤ i → s'.made[i]? = some p → fitsB p.1 = true
  ok : madeOk s.made.length s.made → madeOk s'.made.length s'.made
theorem Post.same {lo hi : Int} {s s' : Mk} (h : s'.made = s.made) (hw : s'.why = s.why) (hp : s'.pl = s.pl) : Post lo hi s s' :=
  ⟨(by rw [h]; exact Nat.le_refl _), (by rw [h]; exact id), ⟨0, by rw [h]; simp⟩, fun _ => ⟨hw, hp⟩, fun c => .inl (by rw [hw]; exact c), fun i _ => (by rw [h]), fun _ i p hi hp => (by rw [h, List.getElem?_eq_none hi] at hp; cases hp), (by rw [h]; exact id)⟩
theorem Post.refl (lo hi : Int) (s : Mk) : Post lo hi s s := Post.same rfl rfl rfl
theorem Post.then {lo hi : Int} {s s' s'' : Mk} (h : Post lo hi s s') (k : Post lo hi s' s'') : Post lo hi s s'' := by
  refine ⟨Nat.le_trans h.len k.len, fun c => k.le60 (h.le60 c), ?_, fun c => ?_, fun c => ?_, fun i hi => ?_, fun c i p hi hp => ?_, fun c => k.ok (h.ok c)⟩
  · obtain ⟨a, ha⟩ := h.tails
    obtain ⟨b, hb⟩ := k.tails
    exact ⟨a + b, by rw [hb, ha, List.append_assoc, List.replicate_append_replicate]⟩
  · obtain ⟨h1, h2⟩ := h.bad c
    obtain ⟨k1, k2⟩ := k.bad (by rw [h1]; exact c)
    exact ⟨k1.trans h1, k2.trans h2⟩
  · rcases h.why c with d | d
    · exact k.why d
    · have hne : s'.why ≠ 0 := by rcases d.2 with e | e <;> rw [e] <;> decide
      obtain ⟨k1, k2⟩ := k.bad hne
      exact .inr ⟨by rw [k2]; exact d.1, by rw [k1]; exact d.2⟩
  · rw [k.old i (Nat.lt_of_lt_of_le hi h.len)]; exact h.old i hi
  · by_cases d : i < s'.made.length
    · have hw : s'.why = 0 := by
        by_cases e : s'.why = 0
        · exact e
        · rw [(k.bad e).1] at c; exact absurd c e
      rw [k.old i d] at hp
      exact h.new hw i p hi hp
    · exact k.new c i p (by omega) hp
theorem Post.stop {lo hi : Int} (s : Mk) {q y : Int} (hq : lo ≤ q ∧ q ≤ hi) (hy : y = 5 ∨ y = 7) : Post lo hi s (s.stop q y) := by
  unfold Mk.stop
  split
  · next c =>
    exact ⟨Nat.le_refl _, id, ⟨0, by simp⟩, fun d => absurd c d, fun _ => .inr ⟨hq, hy⟩, fun i _ => rfl, fun _ i p hi hp => (by simp only at hp; rw [List.getElem?_eq_none hi] at hp; cases hp), id⟩
  · exact Post.refl _ _ _
theorem setA_get (A : List (List SY)) : ∀ (l : List PRD) (n i : Nat), (setA l n A)[i]? = if i = n then (l[i]?).map (fun p => (A, p.2)) else l[i]? := by
  intro l
  induction l with
  | nil => intro n i; simp [setA]
  | cons p l ih =>
    intro n i
    cases n with
    | zero =>
      cases i with
      | zero => simp [setA]
      | succ i => simp [setA]
    | succ n =>
      cases i with
      | zero => simp [setA]
      | succ i => simp [setA, ih n i]
theorem setA_snd (A : List (List SY)) : ∀ (l : List PRD) (n : Nat), (setA l n A).map (·.2) = l.map (·.2) := by
  intro l
  induction l with
  | nil => intro n; rfl
  | cons p l ih =>
    intro n
    cases n with
    | zero => simp [setA]
    | succ n => simp [setA, ih n]
theorem setA_ok {k : Nat} {A : List (List SY)} (hA : ∀ l ∈ A, symsOk k l) {m : List PRD} (hm : madeOk k m) (n : Nat) : madeOk k (setA m n A) := by
  intro p hp
  obtain ⟨i, hi⟩ := List.getElem?_of_mem hp
  rw [setA_get] at hi
  split at hi
  · cases e : m[i]? with
    | none => rw [e] at hi; cases hi
    | some q =>
      rw [e] at hi
      simp only [Option.map_some, Option.some.injEq] at hi
      subst hi
      have := hm q (List.mem_of_getElem? e)
      exact ⟨this.1, this.2.1, hA⟩
  · exact hm p (List.mem_of_getElem? hi)
theorem fin_made (s : Mk) (n : Nat) (q : Int) (A : List (List SY)) : (s.fin n q A).made = setA s.made n A := by
  unfold Mk.fin
  split
  · rfl
  · simp [stop_made]
theorem fin_why {lo hi : Int} (s : Mk) (n : Nat) {q : Int} (A : List (List SY)) (hq : lo ≤ q ∧ q ≤ hi) :
    (s.why ≠ 0 → (s.fin n q A).why = s.why ∧ (s.fin n q A).pl = s.pl) ∧ (s.why = 0 → (s.fin n q A).why = 0 ∨ ((lo ≤ (s.fin n q A).pl ∧ (s.fin n q A).pl ≤ hi) ∧ ((s.fin n q A).why = 5 ∨ (s.fin n q A).why = 7))) ∧ ((s.fin n q A).why = 0 → s.why = 0 ∧ fitsB A = true) := by
  unfold Mk.fin
  split
  · next c => exact ⟨fun _ => ⟨rfl, rfl⟩, fun d => .inl d, fun d => ⟨d, c⟩⟩
  · unfold Mk.stop
    split
    · next c => exact ⟨fun d => absurd c d, fun _ => .inr ⟨hq, .inr rfl⟩, fun d => by simp at d⟩
    · next c => exact ⟨fun _ => ⟨rfl, rfl⟩, fun d => absurd d c, fun d => absurd d c⟩
def Good (ns : List (List Int)) (lo hi : Int) (n : Nat) (f : PF) : Prop :=
  ∀ s l p, ns.length ≤ s.made.length → 1 ≤ s.made.length → okP n lo hi p → Post lo hi s (f s l p).1 ∧ (symsOk s.made.length l → symsOk (f s l p).1.made.length (f s l p).2)
theorem idx_lt (x : List Int) : ∀ (ns : List (List Int)) (i n : Nat), idx x ns i = some n → i ≤ n ∧ n < i + ns.length := by
  intro ns
  induction ns with
  | nil => intro i n h; cases h
  | cons y ns ih =>
    intro i n h
    unfold idx at h
    split at h
    · injection h with h; subst h; simp
    · have := ih _ _ h
      simp only [List.length_cons]; omega
theorem call_good (ns : List (List Int)) (lo hi : Int) (n : Nat) : Good ns lo hi (n + 1) (callS ns) := by
  intro s l p h1 h2 hp
  unfold callS
  split
  · next m e =>
    have := idx_lt _ _ _ _ e
    exact ⟨Post.refl _ _ _, fun hl => putS_ok hl (non_ok (n := m) (k := s.made.length) (by omega))⟩
  · have P := Post.stop (lo := lo) (hi := hi) s (q := atP p) (y := 5) hp.1 (.inl rfl)
    refine ⟨P, fun hl => putS_ok (hl.mono P.len) ?_⟩
    exact non_ok (n := 0) (Nat.lt_of_lt_of_le h2 P.len)
theorem byte_ok {c : Int} (h : 0 ≤ c ∧ c ≤ 255) (k : Int) : symB (0, [(c, c)], 0) k = true := by
  have h1 : G.mayB [(c, c)] = true := by unfold G.mayB G.mayFrom; simp [G.mayFrom]; omega
  unfold symB byB
  simp [h1]
  omega
theorem text_good : ∀ (t : List Int) (k : Nat) (l : List SY), U.isBytes t → symsOk k l → symsOk k (textS t l) := by
  intro t
  induction t with
  | nil => intro k l _ h; exact h
  | cons c t ih =>
    intro k l ht h
    unfold textS
    split
    · exact h
    · exact ih k _ (fun z hz => ht z (List.mem_cons_of_mem _ hz)) (putS_ok h (byte_ok (ht c (List.mem_cons_self ..)) _))
theorem seq_good {ns : List (List Int)} {lo hi : Int} {n : Nat} {f : PF} (hf : Good ns lo hi n f) : ∀ (ps : List PT) (s : Mk) (l : List SY), ns.length ≤ s.made.length → 1 ≤ s.made.length → (∀ x ∈ ps, okP n lo hi x) → Post lo hi s (seqM f ps s l).1 ∧ (symsOk s.made.length l → symsOk (seqM f ps s l).1.made.length (seqM f ps s l).2) := by
  intro ps
  induction ps with
  | nil => intro s l _ _ _; exact ⟨Post.refl _ _ _, id⟩
  | cons p ps ih =>
    intro s l h1 h2 hp
    unfold seqM
    split
    · exact ⟨Post.refl _ _ _, id⟩
    · obtain ⟨k1, k2⟩ := hf s l p h1 h2 (hp p (List.mem_cons_self ..))
      obtain ⟨m1, m2⟩ := ih (f s l p).1 (f s l p).2 (Nat.le_trans h1 k1.len) (Nat.le_trans h2 k1.len) (fun x hx => hp x (List.mem_cons_of_mem _ hx))
      exact ⟨k1.then m1, fun hl => m2 (k2 hl)⟩
theorem each_good {ns : List (List Int)} {lo hi : Int} {n : Nat} {f : PF} (hf : Good ns lo hi n f) : ∀ (ps : List PT) (s : Mk) (a : List (List SY)), ns.length ≤ s.made.length → 1 ≤ s.made.length → (∀ x ∈ ps, okP n lo hi x) → Post lo hi s (eachM f ps s a).1 ∧ ((∀ l ∈ a, symsOk s.made.length l) → ∀ l ∈ (eachM f ps s a).2, symsOk (eachM f ps s a).1.made.length l) := by
  intro ps
  induction ps with
  | nil => intro s a _ _ _; exact ⟨Post.refl _ _ _, id⟩
  | cons p ps ih =>
    intro s a h1 h2 hp
    unfold eachM
    split
    · exact ⟨Post.refl _ _ _, id⟩
    · obtain ⟨k1, k2⟩ := hf s [] p h1 h2 (hp p (List.mem_cons_self ..))
      obtain ⟨m1, m2⟩ := ih (f s [] p).1 (if a.length ≤ 8 then a ++ [(f s [] p).2] else a) (Nat.le_trans h1 k1.len) (Nat.le_trans h2 k1.len) (fun x hx => hp x (List.mem_cons_of_mem _ hx))
      refine ⟨k1.then m1, fun ha => m2 (fun l hl => ?_)⟩
      split at hl
      · rcases List.mem_append.1 hl with c | c
        · exact (ha l c).mono k1.len
        · simp at c; subst c; exact k2 (fun s hs => by cases hs)
      · exact (ha l hl).mono k1.len
theorem only_good {ns : List (List Int)} {lo hi : Int} {n : Nat} {f : PF} (hf : Good ns lo hi n f) (s : Mk) (p : PT) (h1 : ns.length ≤ s.made.length) (h2 : 1 ≤ s.made.length) (hp : okP (n + 1) lo hi p) : Post lo hi s (onlyM f p s).1 ∧ symsOk (onlyM f p s).1.made.length (onlyM f p s).2 := by
  unfold onlyM
  split
  · next x e =>
    obtain ⟨k1, k2⟩ := hf s [] x h1 h2 (hp.2.2.2.2.2.2.2 x (by rw [e]; simp))
    exact ⟨k1, k2 (fun s hs => by cases hs)⟩
  · exact ⟨Post.stop s hp.1 (.inr rfl), fun s hs => by cases hs⟩
theorem alts_good {ns : List (List Int)} {lo hi : Int} {n : Nat} {f : PF} (hf : Good ns lo hi n f) (s : Mk) (p : PT) (m : Nat) (hm : m < s.made.length) (h1 : ns.length ≤ s.made.length) (h2 : 1 ≤ s.made.length) (hp : okP (n + 1) lo hi p) : Post lo hi s (altsM f p m s).1 ∧ ∀ l ∈ (altsM f p m s).2, symsOk (altsM f p m s).1.made.length l := by
  obtain ⟨o1, o2⟩ := only_good hf s p h1 h2 hp
  have hn : symB (2, [], (m : Int)) ((onlyM f p s).1.made.length : Int) = true := non_ok (Nat.lt_of_lt_of_le hm o1.len)
  have nil : symsOk (onlyM f p s).1.made.length [] := fun s hs => by cases hs
  unfold altsM
  split
  · obtain ⟨k1, k2⟩ := each_good hf (psP p) s [] h1 h2 hp.2.2.2.2.2.2.2
    exact ⟨k1, k2 (fun l hl => by cases hl)⟩
  · split
    · refine ⟨o1, fun l hl => ?_⟩
      simp at hl
      rcases hl with rfl | rfl
      · exact putS_ok o2 hn
      · exact nil
    · split
      · refine ⟨o1, fun l hl => ?_⟩
        simp at hl
        rcases hl with rfl | rfl
        · exact putS_ok o2 hn
        · exact o2
      · refine ⟨o1, fun l hl => ?_⟩
        simp at hl
        rcases hl with rfl | rfl
        · exact o2
        · exact nil
theorem anew_good {ns : List (List Int)} {lo hi : Int} {n : Nat} {f : PF} (hf : Good ns lo hi n f) : Good ns lo hi (n + 1) (anewM f) := by
  intro s l p h1 h2 hp
  unfold anewM
  split
  · exact ⟨Post.stop s hp.1 (.inr rfl), fun hl => by rw [stop_made]; exact hl⟩
  · next h60 =>
    have hl1 : (s.made ++ [(([] : List (List SY)), (0 : Int), ([] : List (Int × Int)))]).length = s.made.length + 1 := by simp
    obtain ⟨k1, k2⟩ := alts_good hf ⟨s.made ++ [([], 0, [])], s.left, s.pl, s.why⟩ p s.made.length (by simp) (by simp; omega) (by simp) hp
    generalize altsM f p s.made.length ⟨s.made ++ [([], 0, [])], s.left, s.pl, s.why⟩ = r at *
    obtain ⟨w1, w2, w3⟩ := fin_why (lo := lo) (hi := hi) r.1 s.made.length r.2 hp.1
    have klen : s.made.length + 1 ≤ r.1.made.length := by have := k1.len; simp at this; omega
    refine ⟨⟨?_, fun c => ?_, ?_, fun c => ?_, fun c => ?_, fun i hi => ?_, fun c i q hi hq => ?_, fun c => ?_⟩, fun hl => ?_⟩
    · simp only [fin_len]; omega
    · simp only [fin_len]; exact k1.le60 (by simp; omega)
    · obtain ⟨a, ha⟩ := k1.tails
      refine ⟨a + 1, ?_⟩
      simp only [fin_made, setA_snd]
      rw [ha, List.map_append, List.append_assoc, Nat.add_comm, ← List.replicate_append_replicate]
      rfl
    · obtain ⟨b1, b2⟩ := k1.bad c
      obtain ⟨c1, c2⟩ := w1 (by rw [b1]; exact c)
      exact ⟨c1.trans b1, c2.trans b2⟩
    · rcases k1.why c with d | d
      · exact w2 d
      · have hne : r.1.why ≠ 0 := by rcases d.2 with e | e <;> rw [e] <;> decide
        obtain ⟨c1, c2⟩ := w1 hne
        exact .inr ⟨by simp only; rw [c2]; exact d.1, by simp only; rw [c1]; exact d.2⟩
    · simp only [fin_made]
      rw [setA_get, if_neg (by omega), k1.old i (by simp; omega)]
      simp only
      rw [List.getElem?_append_left hi]
    · simp only [fin_made] at hq
      obtain ⟨x1, x2⟩ := w3 c
      rw [setA_get] at hq
      split at hq
      · cases e : r.1.made[i]? with
        | none => rw [e] at hq; cases hq
        | some z => rw [e] at hq; simp only [Option.map_some, Option.some.injEq] at hq; subst hq; exact x2
      · exact k1.new x1 i q (by simp; omega) hq
    · simp only [fin_made, setA_len]
      refine setA_ok k2 (k1.ok ?_) _
      simp only [hl1]
      intro q hq
      rcases List.mem_append.1 hq with e | e
      · exact (c q e).mono (Nat.le_succ _)
      · simp at e; subst e; exact ⟨by simp, rfl, fun l hl => by cases hl⟩
    · simp only [fin_len]
      exact putS_ok (hl.mono (by omega)) (non_ok (by omega))
theorem way_good {ns : List (List Int)} {lo hi : Int} {n : Nat} {f : PF} (hf : Good ns lo hi n f) : Good ns lo hi (n + 1) (wayM ns f) := by
  intro s l p h1 h2 hp
  unfold wayM
  split
  · exact call_good ns lo hi n s l p h1 h2 hp
  · split
    · next c => exact ⟨Post.refl _ _ _, fun hl => text_good _ _ _ (hp.2.2.2.2.1 c) hl⟩
    · split
      · next c =>
        refine ⟨Post.refl _ _ _, fun hl => putS_ok hl ?_⟩
        unfold symB
        simp [hp.2.2.1 (.inl c)]
      · split
        · next c =>
          refine ⟨Post.refl _ _ _, fun hl => putS_ok hl ?_⟩
          have hb : byB (rgP p) = true := by
            unfold byB
            by_cases h0 : (rgP p).length = 0
            · simp [h0]
            · have hlt : (rgP p).length - 1 < (rgP p).length := by omega
              have := hp.2.2.2.1 c _ (List.getElem_mem hlt)
              simp [List.getD, hlt]
              exact .inr this
          unfold symB
          simp [hp.2.2.1 (.inr c), hb]
        · split
          · exact seq_good hf (psP p) s l h1 h2 hp.2.2.2.2.2.2.2
          · exact anew_good hf s l p h1 h2 hp
theorem part_good' (ns : List (List Int)) (lo hi : Int) : ∀ (n : Nat) (d : Int), Good ns lo hi n (partM ns n d) := by
  intro n
  induction n with
  | zero => intro d s l p _ _ hp; exact hp.elim
  | succ n ih =>
    intro d s l p h1 h2 hp
    unfold partM
    split
    · exact ⟨Post.stop s hp.1 (.inr rfl), fun hl => by rw [stop_made]; exact hl⟩
    · obtain ⟨k1, k2⟩ := way_good (ih (d + 1)) ⟨s.made, s.left - 1, s.pl, s.why⟩ l p h1 h2 hp
      exact ⟨(Post.same (s := s) (s' := ⟨s.made, s.left - 1, s.pl, s.why⟩) rfl rfl rfl).then k1, k2⟩
theorem ruleA_good {ns : List (List Int)} {lo hi : Int} {n : Nat} (s : Mk) (p : PT) (h1 : ns.length ≤ s.made.length) (h2 : 1 ≤ s.made.length) (hp : okP n lo hi p) : Post lo hi s (ruleA ns n p s).1 ∧ ∀ l ∈ (ruleA ns n p s).2, symsOk (ruleA ns n p s).1.made.length l := by
  cases n with
  | zero => exact hp.elim
  | succ n =>
    unfold ruleA
    split
    · obtain ⟨k1, k2⟩ := each_good (part_good' ns lo hi (n + 1) 0) (psP p) s [] h1 h2 (fun x hx => okP_up n (n + 1) _ _ _ _ _ (Nat.le_succ n) (Int.le_refl _) (Int.le_refl _) (hp.2.2.2.2.2.2.2 x hx))
      exact ⟨k1, k2 (fun l hl => by cases hl)⟩
    · obtain ⟨k1, k2⟩ := part_good' ns lo hi (n + 1) 0 s [] p h1 h2 hp
      refine ⟨k1, fun l hl => ?_⟩
      simp at hl
      subst hl
      exact k2 (fun s hs => by cases hs)
structure RInv (lo hi : Int) (L : List RU) (i : Nat) (s : Mk) : Prop where
  why : s.why = 0 ∨ ((lo ≤ s.pl ∧ s.pl ≤ hi) ∧ (s.why = 5 ∨ s.why = 7))
  tails : ∃ k, s.made.map (·.2) = L.map (fun u => (u.2.1, u.2.2.2.1)) ++ List.replicate k ((0 : Int), ([] : List (Int × Int)))
  le60 : s.made.length ≤ 60
  fits : s.why = 0 → ∀ j p, s.made[j]? = some p → (j < i ∨ L.length ≤ j) → fitsB p.1 = true
  ok : madeOk s.made.length s.made
theorem RInv.len {lo hi : Int} {L : List RU} {i : Nat} {s : Mk} (h : RInv lo hi L i s) : L.length ≤ s.made.length := by
  obtain ⟨k, hk⟩ := h.tails
  have := congrArg List.length hk
  simp at this
  omega
theorem RInv.step {lo hi : Int} {L : List RU} {ns : List (List Int)} {n i : Nat} {s : Mk} {u : RU} (h : RInv lo hi L i s) (hn : ns.length = L.length) (hiL : i < L.length) (hp : okP n lo hi u.2.2.1) (hat : lo ≤ atP u.2.2.1 ∧ atP u.2.2.1 ≤ hi) (hw : s.why = 0) :
    RInv lo hi L (i + 1) ((ruleA ns n u.2.2.1 s).1.fin i (atP u.2.2.1) (ruleA ns n u.2.2.1 s).2) := by
  have hl := h.len
  obtain ⟨k1, k2⟩ := ruleA_good (ns := ns) s u.2.2.1 (by omega) (by omega) hp
  generalize ruleA ns n u.2.2.1 s = r at *
  obtain ⟨w1, w2, w3⟩ := fin_why (lo := lo) (hi := hi) r.1 i r.2 hat
  refine ⟨?_, ?_, ?_, fun c j q hq hj => ?_, ?_⟩
  · rcases k1.why hw with d | d
    · exact w2 d
    · have hne : r.1.why ≠ 0 := by rcases d.2 with e | e <;> rw [e] <;> decide
      obtain ⟨c1, c2⟩ := w1 hne
      exact .inr ⟨by rw [c2]; exact d.1, by rw [c1]; exact d.2⟩
  · obtain ⟨a, ha⟩ := h.tails
    obtain ⟨b, hb⟩ := k1.tails
    exact ⟨a + b, by rw [fin_made, setA_snd, hb, ha, List.append_assoc, List.replicate_append_replicate]⟩
  · rw [fin_len]; exact k1.le60 h.le60
  · obtain ⟨x1, x2⟩ := w3 c
    rw [fin_made, setA_get] at hq
    split at hq
    · cases e : r.1.made[j]? with
      | none => rw [e] at hq; cases hq
      | some z => rw [e] at hq; simp only [Option.map_some, Option.some.injEq] at hq; subst hq; exact x2
    · next hne =>
      by_cases d : j < s.made.length
      · rw [k1.old j d] at hq
        exact h.fits hw j q hq (by omega)
      · exact k1.new x1 j q (by omega) hq
  · rw [fin_made, setA_len]
    exact setA_ok k2 (k1.ok h.ok) _
theorem rules_inv {lo hi : Int} {L : List RU} {ns : List (List Int)} {n : Nat} (hn : ns.length = L.length) : ∀ (l : List RU) (i : Nat) (s : Mk), i + l.length = L.length → (∀ u ∈ l, okP n lo hi u.2.2.1) → RInv lo hi L i s → (rulesM ns n l i s).why ≠ 0 ∧ (∃ j, RInv lo hi L j (rulesM ns n l i s)) ∨ RInv lo hi L L.length (rulesM ns n l i s) := by
  intro l
  induction l with
  | nil => intro i s h _ hs; exact .inr (by simp at h; subst h; exact hs)
  | cons u l ih =>
    intro i s h hp hs
    unfold rulesM
    split
    · next c => exact .inl ⟨c, i, hs⟩
    · next c =>
      have hw : s.why = 0 := by
        by_cases d : s.why = 0
        · exact d
        · exact absurd d c
      have hu := hp u (List.mem_cons_self ..)
      exact ih (i + 1) _ (by simp at h; omega) (fun x hx => hp x (List.mem_cons_of_mem _ hx)) (hs.step hn (by simp at h; omega) hu (OkP.at ⟨n, hu⟩) hw)
theorem twice_at : ∀ (l : List RU) (ns : List (List Int)) (q : Int), twice l ns = some q → ∃ i u, l[i]? = some u ∧ q = u.2.2.2.2 ∧ (ns = [] → 1 ≤ i) := by
  intro l
  induction l with
  | nil => intro ns q h; cases h
  | cons u l ih =>
    intro ns q h
    unfold twice at h
    split at h
    · next c => injection h with h; exact ⟨0, u, rfl, h.symm, fun e => by subst e; cases c⟩
    · obtain ⟨i, v, h1, h2, -⟩ := ih _ _ h
      exact ⟨i + 1, v, by simpa using h1, h2, fun _ => by omega⟩
theorem flat_ok {len n : Nat} {f : List (List Int) × List RU} (h : FlOk len f) (hn : ∀ u ∈ f.2, okP n 1 ((len : Int) - 1) u.2.2.1) :
    (∃ q y, flatL n f = .inl (q, y) ∧ (1 ≤ q ∧ q ≤ (len : Int) - 1) ∧ (y = 5 ∨ y = 6 ∨ y = 7)) ∨
    (∃ g k, flatL n f = .inr g ∧ gramB g.1 = true ∧ g.2 = f.1 ∧ g.1.map (·.2) = f.2.map (fun u => (u.2.1, u.2.2.2.1)) ++ List.replicate k ((0 : Int), ([] : List (Int × Int)))) := by
  have hne : f.2.length ≠ 0 := fun e => h.some (List.eq_nil_of_length_eq_zero e)
  have h16 := h.many
  cases ht : twice f.2 [] with
  | some q =>
    obtain ⟨i, u, h1, h2, h3⟩ := twice_at _ _ _ ht
    have hu := h.all u (List.mem_of_getElem? h1)
    have hl := h.later i u h1 (h3 rfl)
    have hb : begM f.2 = ⟨[], 2147483647, q, 6⟩ := by unfold begM; rw [ht]
    have hm : flatM n f.2 = ⟨[], 2147483647, q, 6⟩ := by unfold flatM; rw [hb]; exact rulesM_bad _ _ _ _ _ (show (6 : Int) ≠ 0 by decide)
    refine .inl ⟨q, 6, by unfold flatL; rw [hm]; rfl, ⟨by omega, ?_⟩, .inr (.inl rfl)⟩
    have := hu.2.2.2.2; omega
  | none =>
    have hb : begM f.2 = ⟨f.2.map fun r => ([], r.2.1, r.2.2.2.1), 2147483647, 0, 0⟩ := by unfold begM; rw [ht]; simp only; rw [if_neg (by omega)]
    have I0 : RInv 1 ((len : Int) - 1) f.2 0 (begM f.2) := by
      rw [hb]
      refine ⟨.inl rfl, ⟨0, by simp⟩, by simp; omega, fun _ j p hp hj => ?_, fun p hp => ?_⟩
      · rcases hj with c | c
        · omega
        · simp only at hp; rw [List.getElem?_eq_none (by simp; omega)] at hp; cases hp
      · simp only at hp
        rw [List.mem_map] at hp
        obtain ⟨v, hu, rfl⟩ := hp
        have := h.all _ hu
        exact ⟨this.1, this.2.2.1, fun l hl => by cases hl⟩
    have key : ∀ s : Mk, flatM n f.2 = s → s.why ≠ 0 → (∃ j, RInv 1 ((len : Int) - 1) f.2 j s) → ∃ q y, flatL n f = .inl (q, y) ∧ (1 ≤ q ∧ q ≤ (len : Int) - 1) ∧ (y = 5 ∨ y = 6 ∨ y = 7) := by
      rintro s hs hw ⟨j, hi⟩
      refine ⟨s.pl, s.why, by unfold flatL; rw [hs, if_neg hw], ?_, ?_⟩
      · rcases hi.why with d | d
        · exact absurd d hw
        · exact d.1
      · rcases hi.why with d | d
        · exact absurd d hw
        · rcases d.2 with e | e
          · exact .inl e
          · exact .inr (.inr e)
    rcases rules_inv (ns := f.2.map (·.1)) (n := n) (by simp) f.2 0 (begM f.2) (by simp) hn I0 with ⟨c, hj⟩ | hi
    · exact .inl (key _ rfl c hj)
    · by_cases hw : (flatM n f.2).why = 0
      · have hi : RInv 1 ((len : Int) - 1) f.2 f.2.length (flatM n f.2) := hi
        obtain ⟨k, hk⟩ := hi.tails
        refine .inr ⟨((flatM n f.2).made, f.1), k, by unfold flatL; rw [if_pos hw], ?_, rfl, hk⟩
        have hl := hi.len
        have h60 := hi.le60
        unfold gramB
        simp only [Bool.and_eq_true, decide_eq_true_eq, List.all_eq_true]
        refine ⟨by omega, h60, fun p hp => ?_⟩
        obtain ⟨j, hj⟩ := List.getElem?_of_mem hp
        have hf := hi.fits hw j p hj (by omega)
        have ho := hi.ok p hp
        unfold prodB
        simp only [Bool.and_eq_true, decide_eq_true_eq, List.all_eq_true]
        exact ⟨hf, ho.1.1, ho.1.2, ho.2.1, fun l hl s hs => ho.2.2 l hl s hs⟩
      · exact .inl (key _ rfl hw ⟨_, hi⟩)
end Go.Proofs.YtamefbpdnblbdaaGreatDoor.F

namespace Go.Proofs.YtamefbpdnblbdaaGreatDoor.F
open Go.RowKit Go.Proofs.YtamefbpdnblbdaaGreatDoor.T Go.Proofs.YtamefbpdnblbdaaGreatDoor.R
set_option linter.unusedVariables false
set_option linter.unusedSimpArgs false

theorem SymsV.none (D : Nat → Prop) (w : World) : SymsV D w (.slice Option.none 0 0) [] := ⟨Option.none, 0, [], rfl, ⟨Nat.le_refl _, Nat.zero_le _, .inl rfl⟩, rfl⟩
theorem RowT.new {t : TypeId} {D : Nat → Prop} {w : World} {g : Nat} {cs : Array Value} {fr : Nat × Nat} (hg : w.heap[g]? = some (.cells cs t fr)) (hd : D g) (n : Nat) (hn : n ≤ maxLen) : RowT t D w (some ⟨g, 0, none⟩) n n cs.toList :=
  ⟨Nat.le_refl _, hn, .inr ⟨g, 0, cs, fr, rfl, hd, hg, fun j u hu => by rw [Nat.zero_add]; simpa using hu⟩⟩
theorem AltV.two {D : Nat → Prop} {w X : World} (k : Kp D D w X) {v1 v2 : Value} {l1 l2 : List SY} (h1 : SymsV D w v1 l1) (h2 : SymsV D w v2 l2) {g : Nat} {fr : Nat × Nat} (hg : X.heap[g]? = some (.cells #[v1, v2] 46 fr)) (hd : D g) : AltV D X (.slice (some ⟨g, 0, none⟩) 2 2) [l1, l2] :=
  ⟨_, _, _, rfl, RowT.new hg hd 2 (by unfold maxLen; omega), v1, [v2], rfl, h1.kp k, v2, [], rfl, h2.kp k, rfl⟩
theorem AltV.one {D : Nat → Prop} {w X : World} (k : Kp D D w X) {v1 : Value} {l1 : List SY} (h1 : SymsV D w v1 l1) {g : Nat} {fr : Nat × Nat} (hg : X.heap[g]? = some (.cells #[v1] 46 fr)) (hd : D g) : AltV D X (.slice (some ⟨g, 0, none⟩) 1 1) [l1] :=
  ⟨_, _, _, rfl, RowT.new hg hd 1 (by unfold maxLen; omega), v1, [], rfl, h1.kp k, rfl⟩
def AtC (ns : List (List Int)) (n : Nat) (d : Int) (f : Nat) (g : PT → Nat → Mk → Mk × List (List SY)) : Prop :=
  ∀ (D : Nat → Prop) (w : World) (B b m : Nat) (s : Mk) (pv : Value) (p : PT) (nn : Nat), B ≤ w.heap.size → (∀ k, w.heap.size ≤ k → D k) → Mak D w B b m ns d s → PartB B (n + 1) w pv p → smP (n + 1) p →
    Calls Tryz.prog f #[.pointer (some ⟨b, 0, none⟩), pv, .agg #[.int .i64 2, .slice none 0 0, .int .i64 (nn : Int)]] w (AlR D B b m ns d w (g p nn s))
theorem LV.symsN {D : Nat → Prop} {w X : World} {B : Nat} {v : Value} {l : List SY} (h : LV X B v l) (nx : Nx w (.slice none 0 0) v) (hD : ∀ k, w.heap.size ≤ k → D k) : SymsV D X v l :=
  h.syms (fun g hg => by
    rcases nx g hg with c | c
    · cases c
    · exact hD g c)
theorem part_form {B n : Nat} {w : World} {pv : Value} {p : PT} (h : PartB B (n + 1) w pv p) : ∃ k S a1 n1 c1 a2 n2 c2 q, pv = .agg #[.int .i64 k, .string S, .slice a1 n1 c1, .slice a2 n2 c2, .int .i64 q] ∧ k = kdP p ∧ q = atP p := by
  obtain ⟨k, t, R, L, q, aR, cR, aL, cL, cs, rfl, rfl, -⟩ := h
  exact ⟨_, _, _, _, _, _, _, _, _, rfl, rfl, rfl⟩
set_option maxRecDepth 20000 in
set_option maxHeartbeats 4000000 in
theorem fstar_l {ns : List (List Int)} {n : Nat} {d : Int} (HP : PartC ns n d) : AtC ns n d 103 (fun p nn s => ((onlyM (partM ns n d) p s).1, [putS (onlyM (partM ns n d) p s).2 (2, [], (nn : Int)), []])) := by
  intro D w B b m s pv p nn hB hD h hp hs
  obtain ⟨mv, hm⟩ := h
  have B2 : ∀ o1 o2, Below w.heap.size w ((w.alloc o1).alloc o2) := fun o1 o2 => (Below.new1 o1).alloc (by simp) o2
  have CO := hideR (fun W (bW : Below w.heap.size w W) => fonly_l HP pv p (by have := bW.size; omega) (fun k hk => hD k (by have := bW.size; omega)) ⟨mv, hm.later bW⟩ (PartB.kept (fun g hg => ⟨hg, bW.block g (by omega)⟩) (KR.of bW) (n + 1) _ p hp) hs)
  obtain ⟨k, S, a1, n1, c1, a2, n2, c2, q, rfl, -, -⟩ := part_form hp
  have HDD := hideR hD
  have hlt := hm.lt
  have HLT := hideR hB
  clear hm hp hs hD
  dsimp only
  generalize onlyM (partM ns n d) p s = r at *
  go_enter Tryz.func103, Tryz.ntmps103
  go_wp2_with fail
  have P0 : ((w.alloc (.cells #[.int .i64 k, .string S, .slice a1 n1 c1, .slice a2 n2 c2, .int .i64 q] 42)).alloc (.cells #[.int .i64 2, .slice none 0 0, .int .i64 (nn : Int)] 56)).heap[w.heap.size]? = some (.cells #[.int .i64 k, .string S, .slice a1 n1 c1, .slice a2 n2 c2, .int .i64 q] 42) := old_at (heap_alloc_new _ _) _
  have P1 : ((w.alloc (.cells #[.int .i64 k, .string S, .slice a1 n1 c1, .slice a2 n2 c2, .int .i64 q] 42)).alloc (.cells #[.int .i64 2, .slice none 0 0, .int .i64 (nn : Int)] 56)).heap[w.heap.size + 1]? = some (.cells #[.int .i64 2, .slice none 0 0, .int .i64 (nn : Int)] 56) := by have := heap_alloc_new (w.alloc (.cells #[.int .i64 k, .string S, .slice a1 n1 c1, .slice a2 n2 c2, .int .i64 q] 42)) (.cells #[.int .i64 2, .slice none 0 0, .int .i64 (nn : Int)] 56); simpa using this
  have BW : Below w.heap.size w ((w.alloc (.cells #[.int .i64 k, .string S, .slice a1 n1 c1, .slice a2 n2 c2, .int .i64 q] 42)).alloc (.cells #[.int .i64 2, .slice none 0 0, .int .i64 (nn : Int)] 56)) := B2 _ _
  have sW : ((w.alloc (.cells #[.int .i64 k, .string S, .slice a1 n1 c1, .slice a2 n2 c2, .int .i64 q] 42)).alloc (.cells #[.int .i64 2, .slice none 0 0, .int .i64 (nn : Int)] 56)).heap.size = w.heap.size + 2 := by simp
  generalize ((w.alloc (.cells #[.int .i64 k, .string S, .slice a1 n1 c1, .slice a2 n2 c2, .int .i64 q] 42)).alloc (.cells #[.int .i64 2, .slice none 0 0, .int .i64 (nn : Int)] 56)) = WW at *
  refine wp_region_held_drew (S := (fun w' => w'.heap[w.heap.size]? = some (.cells #[.int .i64 k, .string S, .slice a1 n1 c1, .slice a2 n2 c2, .int .i64 q] 42) ∧ w'.heap[w.heap.size + 1]? = some (.cells #[.int .i64 2, .slice none 0 0, .int .i64 (nn : Int)] 56))) (by kernel_rfl) (⟨P0, P1⟩) (fun hHeld => ?_)
  refine wpAnyH_take (i := 0) (v := ?_) rfl (by kernel_rfl) (by kernel_rfl) (by kernel_rfl) (fun _ _ _ h => h) (Or.inl ⟨by kernel_rfl, ?_⟩) (by assumption) ?_
  rotate_left
  · intro w hSw; obtain ⟨⟨y0, y1, y2, y3, y4⟩, -⟩ := cells5 hSw.1; obtain ⟨⟨z0, z1, z2⟩, -⟩ := cells3 hSw.2; (try clear hSw); go_simp; (try with_reducible rfl)
  try simp only [Act.put, List.getElem_toArray, List.getElem_cons_succ, List.getElem_cons_zero, List.setIfInBounds_toArray, List.set_cons_zero, List.set_cons_succ]
  refine wpAnyH_take (i := 1) (v := ?_) rfl (by kernel_rfl) (by kernel_rfl) (by kernel_rfl) (fun _ _ _ h => h) (Or.inl ⟨by kernel_rfl, ?_⟩) (by assumption) ?_
  rotate_left
  · intro w hSw; obtain ⟨⟨y0, y1, y2, y3, y4⟩, -⟩ := cells5 hSw.1; obtain ⟨⟨z0, z1, z2⟩, -⟩ := cells3 hSw.2; (try clear hSw); go_simp; (try with_reducible rfl)
  try simp only [Act.put, List.getElem_toArray, List.getElem_cons_succ, List.getElem_cons_zero, List.setIfInBounds_toArray, List.set_cons_zero, List.set_cons_succ]
  refine wpAnyH_take (i := 3) (v := ?_) rfl (by kernel_rfl) (by kernel_rfl) (by kernel_rfl) (fun _ _ _ h => h) (Or.inl ⟨by kernel_rfl, ?_⟩) (by assumption) ?_
  rotate_left
  · intro w hSw; obtain ⟨⟨y0, y1, y2, y3, y4⟩, -⟩ := cells5 hSw.1; obtain ⟨⟨z0, z1, z2⟩, -⟩ := cells3 hSw.2; (try clear hSw); go_simp; (try with_reducible rfl)
  try simp only [Act.put, List.getElem_toArray, List.getElem_cons_succ, List.getElem_cons_zero, List.setIfInBounds_toArray, List.set_cons_zero, List.set_cons_succ]
  refine wpAnyH_ready (rs := [2]) (by kernel_rfl) (by simp) ?_
  refine AllReadyH.cons rfl (fun K hK => ?_) AllReadyH.nil
  go_simp
  refine (unhideR CO _ (bthen BW draws_b)).mono ?_
  clear CO
  rintro e w1 ⟨v1, rfl, lv1, ⟨mv1, mk1⟩, fl1, nx1⟩
  have P0 : w1.heap[w.heap.size]? = some (.cells #[.int .i64 k, .string S, .slice a1 n1 c1, .slice a2 n2 c2, .int .i64 q] 42) := fl1.block _ _ P0 (by omega) (by simp [Value.ownBlock]) (fun cs fr e => by injection e with _ e; exact absurd e (by decide))
  have P1 : w1.heap[w.heap.size + 1]? = some (.cells #[.int .i64 2, .slice none 0 0, .int .i64 (nn : Int)] 56) := fl1.block _ _ P1 (by omega) (by simp [Value.ownBlock]) (fun cs fr e => by injection e with _ e; exact absurd e (by decide))
  have FW := hideR ((Fl.of (x := none) (b := b) (B := B) (bthen BW (draws_b (k := 1)))).then fl1 (fun g e => by cases e))
  have s1 := (unhideR FW).size
  have sD : WW.drew.heap.size = WW.heap.size := rfl
  have CP := hideR (fun W (bW : Below w1.heap.size w1 W) => fput_l (lv1.later bW) (by have := bW.size; omega) 2 (nn : Int) [] none 0 (Rs.nil W) (Ty.nil W))
  simp only [List.length_nil] at CP
  have I1 := hideR (show InvL D B b m ns d (.slice none 0 0) w r.1 v1 r.2 w1 from ⟨lv1, ⟨mv1, mk1⟩, unhideR FW, fun g hg => by
      rcases nx1 g hg with c | c
      · exact .inl c
      · have c : WW.heap.size ≤ g := c
        exact .inr (by omega)⟩)
  have NV : ∀ g, v1.ownBlock = some g → w.heap.size + 2 ≤ g := fun g hg => by
      rcases nx1 g hg with c | c
      · cases c
      · have c : WW.heap.size ≤ g := c
        omega
  obtain ⟨xa, xc, rfl⟩ := lv1.form
  have HMK1 := hideR mk1
  clear lv1 mk1 nx1 fl1
  go_wp2_with fail
  refine hK.out _ _ (⟨P0, P1⟩) (fun hHeld => ?_)
  clear hK K
  try simp only [Act.put, List.getElem_toArray, List.getElem_cons_succ, List.getElem_cons_zero, List.setIfInBounds_toArray, List.set_cons_zero, List.set_cons_succ]
  refine wpAnyH_ready (rs := [4]) (by kernel_rfl) (by simp) ?_
  refine AllReadyH.cons rfl (fun K hK => ?_) AllReadyH.nil
  go_simp
  refine (unhideR CP _ (Below.refl _ _)).mono ?_
  clear CP
  rintro e w2 ⟨v2, rfl, lv2, gr2, nx2, kr2⟩
  have P0 : w2.heap[w.heap.size]? = some (.cells #[.int .i64 k, .string S, .slice a1 n1 c1, .slice a2 n2 c2, .int .i64 q] 42) := (gr2.block _ (Array.getElem?_eq_some_iff.1 P0).1 (fun e => by have := NV _ e.symm; omega)).trans P0
  have P1 : w2.heap[w.heap.size + 1]? = some (.cells #[.int .i64 2, .slice none 0 0, .int .i64 (nn : Int)] 56) := (gr2.block _ (Array.getElem?_eq_some_iff.1 P1).1 (fun e => by have := NV _ e.symm; omega)).trans P1
  have I2 := hideR ((unhideR I1).on (put_end (unhideR I1).1 (unhideR HMK1).blk (unhideR HMK1) (Fl.refl _ _ _ _) lv2 gr2 nx2))
  obtain ⟨ya, yc, rfl⟩ := lv2.form
  clear lv2 gr2 nx2 kr2 I1 HMK1
  have s2 := (unhideR I2).2.2.1.size
  go_wp2_with fail
  refine hK.out _ _ (⟨P0, P1⟩) (fun hHeld => ?_)
  clear hK K
  try simp only [Act.put, List.getElem_toArray, List.getElem_cons_succ, List.getElem_cons_zero, List.setIfInBounds_toArray, List.set_cons_zero, List.set_cons_succ]
  refine wpAnyH_ready (rs := [5]) (by kernel_rfl) (by simp) ?_
  refine AllReadyH.cons rfl (fun K hK => ?_) AllReadyH.nil
  go_simp
  refine hK.out _ _ (⟨old_at P0 _, old_at P1 _⟩) (fun hHeld => ?_)
  clear hK K
  try simp only [Act.put, List.getElem_toArray, List.getElem_cons_succ, List.getElem_cons_zero, List.setIfInBounds_toArray, List.set_cons_zero, List.set_cons_succ]
  refine wpAnyH_take (i := 6) (v := ?_) rfl (by kernel_rfl) (by kernel_rfl) (by kernel_rfl) (fun _ _ _ h => h) (Or.inl ⟨by kernel_rfl, ?_⟩) (by assumption) ?_
  rotate_left
  · intro w hSw; skip; (try clear hSw); go_simp; (try with_reducible rfl)
  try simp only [Act.put, List.getElem_toArray, List.getElem_cons_succ, List.getElem_cons_zero, List.setIfInBounds_toArray, List.set_cons_zero, List.set_cons_succ]
  refine wpAnyH_done (by kernel_rfl) ?_ _
  go_wp2_with fail
  go_ret
  obtain ⟨lv, ⟨mv3, mk3⟩, fl3, nx3⟩ := (unhideR I2).more (Below.new1 (.cells #[.slice ya (putS r.2 (2, [], (nn : Int))).length yc, .slice none 0 0] 46))
  exact ⟨_, rfl, AltV.two (Kp.weak _ (fun _ h => h)) (lv.symsN nx3 (unhideR HDD)) (SymsV.none _ _) (heap_alloc_new _ _) (unhideR HDD _ s2), ⟨mv3, mk3.weak (fun g _ hd => hd.1)⟩, fl3, by simp⟩
set_option maxRecDepth 20000 in
set_option maxHeartbeats 4000000 in
theorem fopt_l {ns : List (List Int)} {n : Nat} {d : Int} (HP : PartC ns n d) : AtC ns n d 105 (fun p nn s => ((onlyM (partM ns n d) p s).1, [(onlyM (partM ns n d) p s).2, []])) := by
  intro D w B b m s pv p nn hB hD h hp hs
  obtain ⟨mv, hm⟩ := h
  have B2 : ∀ o1 o2, Below w.heap.size w ((w.alloc o1).alloc o2) := fun o1 o2 => (Below.new1 o1).alloc (by simp) o2
  have CO := hideR (fun W (bW : Below w.heap.size w W) => fonly_l HP pv p (by have := bW.size; omega) (fun k hk => hD k (by have := bW.size; omega)) ⟨mv, hm.later bW⟩ (PartB.kept (fun g hg => ⟨hg, bW.block g (by omega)⟩) (KR.of bW) (n + 1) _ p hp) hs)
  obtain ⟨k, S, a1, n1, c1, a2, n2, c2, q, rfl, -, -⟩ := part_form hp
  have HDD := hideR hD
  have hlt := hm.lt
  have HLT := hideR hB
  clear hm hp hs hD
  dsimp only
  generalize onlyM (partM ns n d) p s = r at *
  go_enter Tryz.func105, Tryz.ntmps105
  go_wp2_with fail
  refine (unhideR CO _ (B2 _ _)).mono ?_
  clear CO
  rintro e w1 ⟨v1, rfl, lv1, ⟨mv1, mk1⟩, fl1, nx1⟩
  have FW := hideR ((Fl.of (x := none) (b := b) (B := B) (B2 (.cells #[.int .i64 k, .string S, .slice a1 n1 c1, .slice a2 n2 c2, .int .i64 q] 42) (.cells #[.int .i64 2, .slice none 0 0, .int .i64 (nn : Int)] 56))).then fl1 (fun g e => by cases e))
  have s1 := (unhideR FW).size
  have I1 := hideR (show InvL D B b m ns d (.slice none 0 0) w r.1 v1 r.2 w1 from ⟨lv1, ⟨mv1, mk1⟩, unhideR FW, fun g hg => by
    rcases nx1 g hg with c | c
    · exact .inl c
    · exact .inr (Nat.le_trans (by simp; omega) c)⟩)
  obtain ⟨ya, yc, rfl⟩ := lv1.form
  clear lv1 mk1 nx1 fl1
  go_wp2_with fail
  go_ret
  obtain ⟨lv, ⟨mv3, mk3⟩, fl3, nx3⟩ := (unhideR I1).more (Below.new1 (.cells #[.slice ya r.2.length yc, .slice none 0 0] 46))
  exact ⟨_, rfl, AltV.two (Kp.weak _ (fun _ h => h)) (lv.symsN nx3 (unhideR HDD)) (SymsV.none _ _) (heap_alloc_new _ _) (unhideR HDD _ s1), ⟨mv3, mk3.weak (fun g _ hd => hd.1)⟩, fl3, by simp⟩
theorem own_weak {w : World} {B B' : Nat} {t : TypeId} {sz : Nat} {v : Value} {n : Nat} {cs : List Value} (h : w.ownsRow B t sz v n cs) (hB : B' ≤ B) : w.ownsRow B' t sz v n cs := by
  refine ⟨h.1, ?_⟩
  rcases h.2 with e | ⟨g, cap, cur, e, hb, rest⟩
  · exact .inl e
  · exact .inr ⟨g, cap, cur, e, Nat.le_trans hB hb, rest⟩
theorem LV.lower {w : World} {B B' : Nat} {v : Value} {l : List SY} (h : LV w B v l) (hB : B' ≤ B) : LV w B' v l := by
  obtain ⟨h1, cs, own, hs⟩ := h
  exact ⟨h1, cs, own_weak own hB, hs⟩
set_option maxRecDepth 20000 in
set_option maxHeartbeats 4000000 in
theorem fplus_l {ns : List (List Int)} {n : Nat} {d : Int} (HP : PartC ns n d) (HS : ∀ p s, smP (n + 1) p → smS (onlyM (partM ns n d) p s).2) : AtC ns n d 104 (fun p nn s => ((onlyM (partM ns n d) p s).1, [putS (onlyM (partM ns n d) p s).2 (2, [], (nn : Int)), (onlyM (partM ns n d) p s).2])) := by
  intro D w B b m s pv p nn hB hD h hp hs
  obtain ⟨mv, hm⟩ := h
  have B2 : ∀ o1 o2, Below w.heap.size w ((w.alloc o1).alloc o2) := fun o1 o2 => (Below.new1 o1).alloc (by simp) o2
  have CO := hideR (fun W (bW : Below w.heap.size w W) => fonly_l HP pv p (by have := bW.size; omega) (fun k hk => hD k (by have := bW.size; omega)) ⟨mv, hm.later bW⟩ (PartB.kept (fun g hg => ⟨hg, bW.block g (by omega)⟩) (KR.of bW) (n + 1) _ p hp) hs)
  obtain ⟨k, S, a1, n1, c1, a2, n2, c2, q, rfl, -, -⟩ := part_form hp
  have HSM := hideR (HS p s hs)
  have HDD := hideR hD
  have hlt := hm.lt
  have HLT := hideR hB
  clear hm hp hs hD HS
  dsimp only
  generalize onlyM (partM ns n d) p s = r at *
  go_enter Tryz.func104, Tryz.ntmps104
  go_wp2_with fail
  have P0 : ((w.alloc (.cells #[.int .i64 k, .string S, .slice a1 n1 c1, .slice a2 n2 c2, .int .i64 q] 42)).alloc (.cells #[.int .i64 2, .slice none 0 0, .int .i64 (nn : Int)] 56)).heap[w.heap.size]? = some (.cells #[.int .i64 k, .string S, .slice a1 n1 c1, .slice a2 n2 c2, .int .i64 q] 42) := old_at (heap_alloc_new _ _) _
  have P1 : ((w.alloc (.cells #[.int .i64 k, .string S, .slice a1 n1 c1, .slice a2 n2 c2, .int .i64 q] 42)).alloc (.cells #[.int .i64 2, .slice none 0 0, .int .i64 (nn : Int)] 56)).heap[w.heap.size + 1]? = some (.cells #[.int .i64 2, .slice none 0 0, .int .i64 (nn : Int)] 56) := by have := heap_alloc_new (w.alloc (.cells #[.int .i64 k, .string S, .slice a1 n1 c1, .slice a2 n2 c2, .int .i64 q] 42)) (.cells #[.int .i64 2, .slice none 0 0, .int .i64 (nn : Int)] 56); simpa using this
  have BW : Below w.heap.size w ((w.alloc (.cells #[.int .i64 k, .string S, .slice a1 n1 c1, .slice a2 n2 c2, .int .i64 q] 42)).alloc (.cells #[.int .i64 2, .slice none 0 0, .int .i64 (nn : Int)] 56)) := B2 _ _
  have sW : ((w.alloc (.cells #[.int .i64 k, .string S, .slice a1 n1 c1, .slice a2 n2 c2, .int .i64 q] 42)).alloc (.cells #[.int .i64 2, .slice none 0 0, .int .i64 (nn : Int)] 56)).heap.size = w.heap.size + 2 := by simp
  generalize ((w.alloc (.cells #[.int .i64 k, .string S, .slice a1 n1 c1, .slice a2 n2 c2, .int .i64 q] 42)).alloc (.cells #[.int .i64 2, .slice none 0 0, .int .i64 (nn : Int)] 56)) = WW at *
  refine (unhideR CO _ BW).mono ?_
  clear CO
  rintro e w1 ⟨v1, rfl, lv1, ⟨mv1, mk1⟩, fl1, nx1⟩
  have P1 : w1.heap[w.heap.size + 1]? = some (.cells #[.int .i64 2, .slice none 0 0, .int .i64 (nn : Int)] 56) := fl1.block _ _ P1 (by omega) (by simp [Value.ownBlock]) (fun cs fr e => by injection e with _ e; exact absurd e (by decide))
  have FW := hideR ((Fl.of (x := none) (b := b) (B := B) BW).then fl1 (fun g e => by cases e))
  have s1 := (unhideR FW).size
  have hw1 : w.heap.size + 1 < w1.heap.size := (Array.getElem?_eq_some_iff.1 P1).1
  have HP1 := hideR P1
  have CC := hideR (fun W (bW : Below w1.heap.size w1 W) => copied_l v1 r.2 W (lv1.later bW) (unhideR HSM))
  have I1 := hideR (show InvL D B b m ns d (.slice none 0 0) w r.1 v1 r.2 w1 from ⟨lv1, ⟨mv1, mk1⟩, unhideR FW, fun g hg => by
    rcases nx1 g hg with c | c
    · exact .inl c
    · exact .inr (by omega)⟩)
  obtain ⟨xa, xc, rfl⟩ := lv1.form
  clear lv1 mk1 nx1 fl1
  go_wp2_with fail
  refine wp_region_held_drew (S := (fun w' => w'.heap[w.heap.size + 1]? = some (.cells #[.int .i64 2, .slice none 0 0, .int .i64 (nn : Int)] 56))) (by kernel_rfl) (P1) (fun hHeld => ?_)
  refine wpAnyH_take (i := 0) (v := ?_) rfl (by kernel_rfl) (by kernel_rfl) (by kernel_rfl) (fun _ _ _ h => h) (Or.inl ⟨by kernel_rfl, ?_⟩) (by assumption) ?_
  rotate_left
  · intro w hSw; obtain ⟨⟨z0, z1, z2⟩, -⟩ := cells3 hSw; (try clear hSw); go_simp; (try with_reducible rfl)
  try simp only [Act.put, List.getElem_toArray, List.getElem_cons_succ, List.getElem_cons_zero, List.setIfInBounds_toArray, List.set_cons_zero, List.set_cons_succ]
  refine wpAnyH_take (i := 2) (v := ?_) rfl (by kernel_rfl) (by kernel_rfl) (by kernel_rfl) (fun _ _ _ h => h) (Or.inl ⟨by kernel_rfl, ?_⟩) (by assumption) ?_
  rotate_left
  · intro w hSw; obtain ⟨⟨z0, z1, z2⟩, -⟩ := cells3 hSw; (try clear hSw); go_simp; (try with_reducible rfl)
  try simp only [Act.put, List.getElem_toArray, List.getElem_cons_succ, List.getElem_cons_zero, List.setIfInBounds_toArray, List.set_cons_zero, List.set_cons_succ]
  refine wpAnyH_take (i := 4) (v := ?_) rfl (by kernel_rfl) (by kernel_rfl) (by kernel_rfl) (fun _ _ _ h => h) (Or.inl ⟨by kernel_rfl, ?_⟩) (by assumption) ?_
  rotate_left
  · intro w hSw; obtain ⟨⟨z0, z1, z2⟩, -⟩ := cells3 hSw; (try clear hSw); go_simp; (try with_reducible rfl)
  try simp only [Act.put, List.getElem_toArray, List.getElem_cons_succ, List.getElem_cons_zero, List.setIfInBounds_toArray, List.set_cons_zero, List.set_cons_succ]
  refine wpAnyH_ready (rs := [1]) (by kernel_rfl) (by simp) ?_
  refine AllReadyH.cons rfl (fun K hK => ?_) AllReadyH.nil
  go_simp
  refine (unhideR CC _ draws_b).mono ?_
  clear CC
  rintro e w2 ⟨v2, rfl, lv2, b2⟩
  have b2 : Below w1.heap.size w1 w2 := bthen (w1 := w1.drew) (draws_b (k := 1)) b2
  have sD : w1.drew.heap.size = w1.heap.size := rfl
  have s2 := b2.size
  have P1 : w2.heap[w.heap.size + 1]? = some (.cells #[.int .i64 2, .slice none 0 0, .int .i64 (nn : Int)] 56) := (b2.block _ hw1).trans P1
  have CP := hideR (fput_l (lv2.lower (show B ≤ w1.drew.heap.size from Nat.le_trans (unhideR HLT) s1)) (Nat.le_trans (unhideR HLT) (Nat.le_trans s1 s2)) 2 (nn : Int) [] none 0 (Rs.nil w2) (Ty.nil w2))
  simp only [List.length_nil] at CP
  have HLV2 := hideR lv2
  have HB2 := hideR b2
  obtain ⟨ya, yc, rfl⟩ := lv2.form
  clear lv2 b2
  go_wp2_with fail
  refine hK.out _ _ (P1) (fun hHeld => ?_)
  clear hK K
  try simp only [Act.put, List.getElem_toArray, List.getElem_cons_succ, List.getElem_cons_zero, List.setIfInBounds_toArray, List.set_cons_zero, List.set_cons_succ]
  refine wpAnyH_ready (rs := [3]) (by kernel_rfl) (by simp) ?_
  refine AllReadyH.cons rfl (fun K hK => ?_) AllReadyH.nil
  go_simp
  refine (unhideR CP).mono ?_
  clear CP
  rintro e w3 ⟨v3, rfl, lv3, gr3, nx3, kr3⟩
  have b3 : Below w1.heap.size w1 w3 := (unhideR HB2).grown gr3 s2 (fun k hk => ((unhideR HLV2).lt k hk).1)
  have P1 : w3.heap[w.heap.size + 1]? = some (.cells #[.int .i64 2, .slice none 0 0, .int .i64 (nn : Int)] 56) := (b3.block _ hw1).trans (show w1.heap[w.heap.size + 1]? = some (.cells #[.int .i64 2, .slice none 0 0, .int .i64 (nn : Int)] 56) from unhideR HP1)
  have I3 := hideR ((unhideR I1).more b3)
  have V3 : SymsV D w3 v3 (putS r.2 (2, [], (nn : Int))) := lv3.syms (fun g hg => by
      rcases nx3 g hg with c | c
      · exact unhideR HDD g (Nat.le_trans s1 ((unhideR HLV2).lt g c).1)
      · exact unhideR HDD g (Nat.le_trans s1 (Nat.le_trans s2 c)))
  have HV3 := hideR V3
  have s3 := gr3.size
  obtain ⟨za, zc, rfl⟩ := lv3.form
  clear lv3 gr3 nx3 kr3 b3 V3 I1 HLV2 HB2
  go_wp2_with fail
  refine hK.out _ _ (P1) (fun hHeld => ?_)
  clear hK K
  try simp only [Act.put, List.getElem_toArray, List.getElem_cons_succ, List.getElem_cons_zero, List.setIfInBounds_toArray, List.set_cons_zero, List.set_cons_succ]
  refine wpAnyH_ready (rs := [5]) (by kernel_rfl) (by simp) ?_
  refine AllReadyH.cons rfl (fun K hK => ?_) AllReadyH.nil
  go_simp
  refine hK.out _ _ (old_at P1 _) (fun hHeld => ?_)
  clear hK K
  try simp only [Act.put, List.getElem_toArray, List.getElem_cons_succ, List.getElem_cons_zero, List.setIfInBounds_toArray, List.set_cons_zero, List.set_cons_succ]
  refine wpAnyH_take (i := 6) (v := ?_) rfl (by kernel_rfl) (by kernel_rfl) (by kernel_rfl) (fun _ _ _ h => h) (Or.inl ⟨by kernel_rfl, ?_⟩) (by assumption) ?_
  rotate_left
  · intro w hSw; skip; (try clear hSw); go_simp; (try with_reducible rfl)
  try simp only [Act.put, List.getElem_toArray, List.getElem_cons_succ, List.getElem_cons_zero, List.setIfInBounds_toArray, List.set_cons_zero, List.set_cons_succ]
  refine wpAnyH_done (by kernel_rfl) ?_ _
  go_wp2_with fail
  go_ret
  have BN := Below.new1 (w := w3) (.cells #[.slice za (putS r.2 (2, [], (nn : Int))).length zc, .slice xa r.2.length xc] 46)
  obtain ⟨lv, ⟨mv3, mk3⟩, fl3, nx3⟩ := (unhideR I3).more BN
  exact ⟨_, rfl, AltV.two (Kp.weak _ (fun _ h => h)) ((unhideR HV3).kp (Kp.of BN)) (lv.symsN nx3 (unhideR HDD)) (heap_alloc_new _ _) (unhideR HDD _ (Nat.le_trans s1 (Nat.le_trans s2 s3))), ⟨mv3, mk3.weak (fun g _ hd => hd.1)⟩, fl3, by simp⟩
end Go.Proofs.YtamefbpdnblbdaaGreatDoor.F

namespace Go.Proofs.YtamefbpdnblbdaaGreatDoor.F
open Go.RowKit Go.Proofs.YtamefbpdnblbdaaGreatDoor.T Go.Proofs.YtamefbpdnblbdaaGreatDoor.R
set_option linter.unusedVariables false
set_option linter.unusedSimpArgs false

theorem prod_info : (Tryz.prog.info? 39).map (fun i => (i.zero, i.size, i.bytes)) = some (some (.agg #[.slice none 0 0, .int .i64 0, .slice none 0 0]), 3, 56) := by kernel_rfl
theorem new_prod (w : World) (n : Nat) (x0 x1 x2 : Value) (hn : n = w.heap.size) : ∀ (j : Nat) (u : Value), [x0, x1, x2][j]? = some u → (w.alloc (.cells #[x0, x1, x2] 39)).cell? ((⟨n, 0, none⟩ : Addr).add j) = some u := by
  subst hn
  exact World.news_of_block (cs := #[x0, x1, x2]) (t := 39) (fr := (0, 0)) (heap_alloc_new w _)
theorem AltV.none (D : Nat → Prop) (w : World) : AltV D w (.slice none 0 0) [] := ⟨_, 0, [], rfl, ⟨Nat.le_refl _, Nat.zero_le _, .inl rfl⟩, rfl⟩
theorem NotV.none (w : World) : NotV w (.slice none 0 0) [] := ⟨_, 0, rfl, Rs.nil w, Ty.nil w⟩
theorem MakV.grow {D : Nat → Prop} {w W X : World} {B b m : Nat} {ns : List (List Int)} {d : Int} {v : Value} {s : Mk} (h : MakV D w B b m ns d v s) (k : Below w.heap.size w W) (h60 : s.made.length < 60) {cs : List Value} (hp : PrC D w s.made cs) {p : PRD} {c0 c2 : Value} (ha : AltV D W c0 p.1) (hn : NotV W c2 p.2.2) {gg cap : Nat}
    (own : X.ownsRow B 39 3 (.slice (some ⟨gg, 0, none⟩) (s.made.length + 1) cap) (s.made.length + 1) (cs ++ [c0, .int .i64 p.2.1, c2])) (hg : W.grownBy X v.ownBlock) (hgg : v.ownBlock = some gg ∨ gg = W.heap.size) :
    MakV D (X.setCell ⟨b, 0, none⟩ (.slice (some ⟨gg, 0, none⟩) (s.made.length + 1) cap)) B b m ns d (.slice (some ⟨gg, 0, none⟩) (s.made.length + 1) cap) ⟨s.made ++ [p], s.left, s.pl, s.why⟩ ∧ Fl B b none w (X.setCell ⟨b, 0, none⟩ (.slice (some ⟨gg, 0, none⟩) (s.made.length + 1) cap)) := by
  have hW := h.later k
  have f1 : Fl B b none W X := Fl.grownP hg (fun k hk => hW.made.block k hk)
  have f2 : Fl B b none w X := (Fl.of k).then f1 (fun g e => by cases e)
  have hbX : X.heap[b]? = some (.cells (mkCells v m b d s) 77) := by
    rw [hg.block b hW.lt (fun e => hW.made_ne b e.symm rfl)]; exact hW.cells
  have kX : KR W X := f1.kr hW.cells (no_x _)
  have hc := heap_setCell_same X b 0 _ _ (.slice (some ⟨gg, 0, none⟩) (s.made.length + 1) cap) hbX
  have f3 : Fl B b none w (X.setCell ⟨b, 0, none⟩ (.slice (some ⟨gg, 0, none⟩) (s.made.length + 1) cap)) := f2.then (Fl.set (x := none) X h.hB 0 _) (fun g e => by cases e)
  have kp : Kp D D w (X.setCell ⟨b, 0, none⟩ (.slice (some ⟨gg, 0, none⟩) (s.made.length + 1) cap)) := f3.kp h.cells (no_x w) (no_d w)
  have kpW : Kp D D W (X.setCell ⟨b, 0, none⟩ (.slice (some ⟨gg, 0, none⟩) (s.made.length + 1) cap)) := (f1.then (Fl.set (x := none) X h.hB 0 _) (fun g e => by cases e)).kp hW.cells (no_x _) (no_d _)
  have hgb : gg ≠ b := by
    intro e
    rcases hgg with c | c
    · exact hW.made_ne gg c e
    · have := hW.lt; omega
  refine ⟨⟨h.hB, h.hm, h.d0, h.l0, ?_, ⟨by simp; omega, cs ++ [c0, .int .i64 p.2.1, c2], ?_, ?_⟩, h.names.keep (fun o ho hno => ?_)⟩, f3⟩
  · rw [hc]; simp [mkCells]
  · rw [List.length_append]
    refine own_keep own (fun g o hg ho => ?_)
    simp only [Value.ownBlock, Option.some.injEq] at hg
    subst hg
    exact other_at ho hgb _
  · exact PrC.snoc (ha.kp kpW) (hn.kr kpW.1) _ _ (PrC.kp kp _ _ hp)
  · refine f3.block m o ho (fun c => ?_) (by simp) (fun cs' fr => hno _ _ _)
    subst c; rw [h.cells] at ho; injection ho with ho; exact hno _ _ _ ho.symm
theorem anew_full {f : PF} {m : Mk} {l : List SY} {p : PT} (h : m.made.length = 60) : anewM f m l p = (m.stop (atP p) 7, l) := by unfold anewM; rw [if_pos h]
theorem anew_on {f : PF} {m : Mk} {l : List SY} {p : PT} (h : m.made.length ≠ 60) : anewM f m l p = (((altsM f p m.made.length ⟨m.made ++ [([], 0, [])], m.left, m.pl, m.why⟩).1).fin m.made.length (atP p) (altsM f p m.made.length ⟨m.made ++ [([], 0, [])], m.left, m.pl, m.why⟩).2, putS l (2, [], (m.made.length : Int))) := by unfold anewM; rw [if_neg h]
theorem LV.dv {D : Nat → Prop} {w : World} {B : Nat} {v : Value} {l : List SY} (h : LV w B v l) (hD : ∀ k, w.heap.size ≤ k → D k) : ∀ k, w.heap.size ≤ k → D k ∧ some k ≠ v.ownBlock := fun k hk => ⟨hD k hk, fun e => by
  have := (h.lt k e.symm).2; omega⟩
theorem enter_of {f : FuncId} {fn : Func} {c : Code} (hf : Tryz.prog.funcs[f]? = some fn) (hname : (fn.name == "runtime.NumGoroutine") = false) (hb : fn.body = some c) (args : Array Value) (w : World) : (callFunc f args).run Tryz.prog w = .ok (.enter f args) w := by
  have h1 : fn.name ≠ "runtime.NumGoroutine" := by simpa using hname
  simp [callFunc, hf, h1, hb]
set_option maxRecDepth 20000 in
set_option maxHeartbeats 8000000 in
theorem fanew_l {ns : List (List Int)} {n : Nat} {d : Int} (F : Nat) (HE : ∀ args W, (callFunc F args).run Tryz.prog W = .ok (.enter F args) W) {AG : PT → Nat → Mk → Mk × List (List SY)} (HA : AtC ns n d F AG) {D : Nat → Prop} {w : World} {B b m : Nat} {s : Mk} {v : Value} {l : List SY} (pv : Value) (p : PT) (hB : B ≤ w.heap.size) (hD : ∀ k, w.heap.size ≤ k → D k) (h : Mak (fun k => D k ∧ some k ≠ v.ownBlock) w B b m ns d s) (hL : LV w B v l) (hp : PartB B (n + 1) w pv p) (hs : smP (n + 1) p) (hG : ∀ nn s, AG p nn s = altsM (partM ns n d) p nn s) :
    Calls Tryz.prog 101 #[.pointer (some ⟨b, 0, none⟩), v, pv, .func (.func F) #[.pointer (some ⟨b, 0, none⟩)] #[]] w (LfR D B b m ns d v w (anewM (partM ns n d) s l p)) := by
  obtain ⟨mv, hm⟩ := h
  have B1 : ∀ o, Below w.heap.size w (w.alloc o) := fun o => Below.new1 o
  have h60 := hm.made.1
  obtain ⟨ma, mc, rfl⟩ := hm.made.form
  have hlt := hm.lt
  have MB := hideR hm.blk
  have HM := hideR hm
  have HL := hideR hL
  have HDV := hideR (hL.dv hD)
  have HP := hideR hp
  have HSP := hideR hs
  have HBB := hideR hB
  have CC0 : ∀ o, (w.alloc o).cell? ⟨b, 0, none⟩ = some (.slice ma s.made.length mc) := fun o => (mcells (hm.later (B1 o)).cells).1
  have CS := hideR (fun W (bW : Below w.heap.size w W) q => fstop_l (hm.later bW) q 7)
  obtain ⟨k, S, a1, n1, c1, a2, n2, c2, q, rfl, hk, hq⟩ := part_form hp
  obtain ⟨la, lc, rfl⟩ := hL.form
  by_cases hf : s.made.length = 60
  · have FIN : Hid (anewM (partM ns n d) s l p = (s.stop q 7, l)) := by show _ = _; rw [hq]; exact anew_full hf
    have hbb : ((s.made.length : Int) == 60) = true := by rw [hf]; rfl
    clear hm hL hp hs hD hf h60 hk hq
    generalize s.made.length = nm at *
    go_enter Tryz.func101, Tryz.ntmps101
    go_wp2_with fail
    refine (unhideR CS _ (B1 _) _).mono ?_
    rintro e w2 ⟨rfl, hm2, f2⟩
    have FW : Fl B b none w w2 := (Fl.of (B1 _)).then f2 (fun g e => by cases e)
    have HFW := hideR FW
    have HM2 := hideR hm2
    clear CS hm2 f2 FW
    go_wp2_with fail
    go_ret
    rw [unhideR FIN]
    obtain ⟨bc, bf, hb⟩ := unhideR MB
    exact ⟨_, rfl, (unhideR HL).fl (unhideR HFW) hb (no_x _) (fun g _ e => by cases e), ⟨_, unhideR HM2⟩, (unhideR HFW).none, Nx.refl _ _⟩
  · have hbb : ((s.made.length : Int) == 60) = false := by rw [beq_eq_false_iff_ne]; omega
    have FIN : Hid (anewM (partM ns n d) s l p = (((altsM (partM ns n d) p s.made.length ⟨s.made ++ [([], 0, [])], s.left, s.pl, s.why⟩).1).fin s.made.length q (altsM (partM ns n d) p s.made.length ⟨s.made ++ [([], 0, [])], s.left, s.pl, s.why⟩).2, putS l (2, [], (s.made.length : Int)))) := by show _ = _; rw [hq]; exact anew_on hf
    have h59 : s.made.length < 60 := by omega
    obtain ⟨-, cs, HO, hpr⟩ := id hm.made
    have HPR := hideR hpr
    obtain ⟨ti, hi0, hz0, hz1, hz2⟩ := info_parts prod_info
    have MON := hideR (alts_mono (part_mono ns n d) p s.made.length ⟨s.made ++ [([], 0, [])], s.left, s.pl, s.why⟩).1
    have HAA := hideR HA
    clear hm hL hp hs hD hf h60 hk hq CS HA hpr
    have BX : ∀ o1 o2, Below w.heap.size w ((w.alloc o1).alloc o2) := fun o1 o2 => (B1 o1).alloc (by simp) o2
    go_enter Tryz.func101, Tryz.ntmps101
    go_wp2_with (at_builtin; refine wpList_append_lies _ rfl _ _ 30 rfl B 39 ti _ 3 56 Tryz.underlying30 hi0 hz0 hz1 hz2 rfl (by omega) _ _ _ rfl ((HO.alloc _).alloc _) ⟨w.heap.size + 1, 0, none⟩ 1 1 [.slice none 0 0, .int .i64 0, .slice none 0 0] rfl rfl (new_prod _ _ _ _ _ (by simp)) (by simp [Value.oneCell']) (by omega) (by unfold maxLen; omega) (by omega) (by simp; omega) (w.heap.size + 2) (by simp) ?_; intro gg cap1 w6 hown1 hgrow hat hlt1; have hb6 : w6.heap[b]? = some (.cells (mkCells (.slice ma s.made.length mc) m b d s) 77) := (hgrow.block b (by simp <;> omega) (fun e => (unhideR HM).made_ne b e.symm rfl)).trans (old_at (old_at (unhideR HM).cells _) _); obtain ⟨u0, -, -, -, -, -, z0, -, -, -, -⟩ := mcells hb6; have s6 := hgrow.size; have hb6l : b < w6.heap.size := (Array.getElem?_eq_some_iff.1 hb6).1; have P0 : w6.heap[w.heap.size]? = some (.cells #[.int .i64 k, .string S, .slice a1 n1 c1, .slice a2 n2 c2, .int .i64 q] 42) := (hgrow.block _ (by simp <;> omega) (fun e => by have := (HO.lt _ e.symm).2; omega)).trans (old_at (heap_alloc_new w _) _); have MG := hideR ((unhideR HM).grow (BX (.cells #[.int .i64 k, .string S, .slice a1 n1 c1, .slice a2 n2 c2, .int .i64 q] 42) (.cells #[.slice none 0 0, .int .i64 0, .slice none 0 0] 39)) h59 (unhideR HPR) (p := ([], 0, [])) (AltV.none _ _) (NotV.none _) hown1 hgrow (by rcases hat with h | h; exact .inl h; exact .inr (by simp [h]))); have s6' : w.heap.size + 2 ≤ w6.heap.size := (by rw [World.size_alloc, World.size_alloc] at s6; exact s6); clear hb6 hown1 hgrow hat HO BX)
    -- the region that draws
    obtain ⟨mg, fg⟩ := unhideR MG
    have P0 : ((w6.setCell ⟨b, 0, none⟩ (.slice (some ⟨gg, 0, none⟩) (s.made.length + 1) cap1)).alloc (.cells #[.int .i64 2, .slice none 0 0, .int .i64 (s.made.length : Int)] 56)).heap[w.heap.size]? = some (.cells #[.int .i64 k, .string S, .slice a1 n1 c1, .slice a2 n2 c2, .int .i64 q] 42) := old_at (other_at P0 (by omega) _) _
    have P1 : ((w6.setCell ⟨b, 0, none⟩ (.slice (some ⟨gg, 0, none⟩) (s.made.length + 1) cap1)).alloc (.cells #[.int .i64 2, .slice none 0 0, .int .i64 (s.made.length : Int)] 56)).heap[w6.heap.size]? = some (.cells #[.int .i64 2, .slice none 0 0, .int .i64 (s.made.length : Int)] 56) := by have := heap_alloc_new (w6.setCell ⟨b, 0, none⟩ (.slice (some ⟨gg, 0, none⟩) (s.made.length + 1) cap1)) (.cells #[.int .i64 2, .slice none 0 0, .int .i64 (s.made.length : Int)] 56); simpa using this
    have sW : ((w6.setCell ⟨b, 0, none⟩ (.slice (some ⟨gg, 0, none⟩) (s.made.length + 1) cap1)).alloc (.cells #[.int .i64 2, .slice none 0 0, .int .i64 (s.made.length : Int)] 56)).heap.size = w6.heap.size + 1 := by simp
    have MW := mg.later (Below.new1 (.cells #[.int .i64 2, .slice none 0 0, .int .i64 (s.made.length : Int)] 56))
    have FW := fg.then (Fl.of (x := none) (Below.new1 (.cells #[.int .i64 2, .slice none 0 0, .int .i64 (s.made.length : Int)] 56))) (fun g e => by cases e)
    clear MG mg fg u0 z0
    generalize ((w6.setCell ⟨b, 0, none⟩ (.slice (some ⟨gg, 0, none⟩) (s.made.length + 1) cap1)).alloc (.cells #[.int .i64 2, .slice none 0 0, .int .i64 (s.made.length : Int)] 56)) = WW at *
    obtain ⟨bc, bf, hb⟩ := unhideR MB
    have LW := hideR ((unhideR HL).fl FW hb (no_x _) (fun g _ e => by cases e))
    have PW := hideR (PartB.fl FW hb (no_x _) (unhideR HBB) (unhideR HP))
    have CA := hideR (fun W (bW : Below WW.heap.size WW W) => unhideR HAA _ W B b m _ _ p s.made.length (Nat.le_trans (unhideR HBB) (Nat.le_trans FW.size bW.size)) (fun k hk => unhideR HDV k (Nat.le_trans FW.size (Nat.le_trans bW.size hk))) ⟨_, MW.later bW⟩ (PartB.kept (fun g hg => ⟨hg, bW.block g (Nat.lt_of_lt_of_le hg (Nat.le_trans (unhideR HBB) FW.size))⟩) (KR.of bW) (n + 1) _ p (unhideR PW)) (unhideR HSP))
    rw [hG] at CA
    generalize hr : altsM (partM ns n d) p s.made.length ⟨s.made ++ [([], 0, [])], s.left, s.pl, s.why⟩ = r at *
    have hn8 : s.made.length < r.1.made.length := by have := unhideR MON; simp at this; omega
    have HFW := hideR FW
    have HMW := hideR MW.cells
    clear MW FW hr MON HAA
    refine wp_region_held_drew (S := (fun w' => w'.heap[w.heap.size]? = some (.cells #[.int .i64 k, .string S, .slice a1 n1 c1, .slice a2 n2 c2, .int .i64 q] 42) ∧ w'.heap[w6.heap.size]? = some (.cells #[.int .i64 2, .slice none 0 0, .int .i64 (s.made.length : Int)] 56))) (by kernel_rfl) (⟨P0, P1⟩) (fun hHeld => ?_)
    refine wpAnyH_take (i := 0) (v := ?_) rfl (by kernel_rfl) (by kernel_rfl) (by kernel_rfl) (fun _ _ _ h => h) (Or.inl ⟨by kernel_rfl, ?_⟩) (by assumption) ?_
    rotate_left
    · intro w hSw; obtain ⟨⟨y0, y1, y2, y3, y4⟩, -⟩ := cells5 hSw.1; obtain ⟨⟨x0, x1, x2⟩, -⟩ := cells3 hSw.2; (try clear hSw); go_simp; (try with_reducible rfl)
    try simp only [Act.put, List.getElem_toArray, List.getElem_cons_succ, List.getElem_cons_zero, List.setIfInBounds_toArray, List.set_cons_zero, List.set_cons_succ]
    refine wpAnyH_take (i := 1) (v := ?_) rfl (by kernel_rfl) (by kernel_rfl) (by kernel_rfl) (fun _ _ _ h => h) (Or.inl ⟨by kernel_rfl, ?_⟩) (by assumption) ?_
    rotate_left
    · intro w hSw; obtain ⟨⟨y0, y1, y2, y3, y4⟩, -⟩ := cells5 hSw.1; obtain ⟨⟨x0, x1, x2⟩, -⟩ := cells3 hSw.2; (try clear hSw); go_simp; (try with_reducible rfl)
    try simp only [Act.put, List.getElem_toArray, List.getElem_cons_succ, List.getElem_cons_zero, List.setIfInBounds_toArray, List.set_cons_zero, List.set_cons_succ]
    refine wpAnyH_take (i := 2) (v := ?_) rfl (by kernel_rfl) (by kernel_rfl) (by kernel_rfl) (fun _ _ _ h => h) (Or.inl ⟨by kernel_rfl, ?_⟩) (by assumption) ?_
    rotate_left
    · intro w hSw; obtain ⟨⟨y0, y1, y2, y3, y4⟩, -⟩ := cells5 hSw.1; obtain ⟨⟨x0, x1, x2⟩, -⟩ := cells3 hSw.2; (try clear hSw); go_simp; (try with_reducible rfl)
    try simp only [Act.put, List.getElem_toArray, List.getElem_cons_succ, List.getElem_cons_zero, List.setIfInBounds_toArray, List.set_cons_zero, List.set_cons_succ]
    refine wpAnyH_take (i := 3) (v := ?_) rfl (by kernel_rfl) (by kernel_rfl) (by kernel_rfl) (fun _ _ _ h => h) (Or.inl ⟨by kernel_rfl, ?_⟩) (by assumption) ?_
    rotate_left
    · intro w hSw; obtain ⟨⟨y0, y1, y2, y3, y4⟩, -⟩ := cells5 hSw.1; obtain ⟨⟨x0, x1, x2⟩, -⟩ := cells3 hSw.2; (try clear hSw); go_simp; (try with_reducible rfl)
    try simp only [Act.put, List.getElem_toArray, List.getElem_cons_succ, List.getElem_cons_zero, List.setIfInBounds_toArray, List.set_cons_zero, List.set_cons_succ]
    refine wpAnyH_take (i := 4) (v := ?_) rfl (by kernel_rfl) (by kernel_rfl) (by kernel_rfl) (fun _ _ _ h => h) (Or.inl ⟨by kernel_rfl, ?_⟩) (by assumption) ?_
    rotate_left
    · intro w hSw; obtain ⟨⟨y0, y1, y2, y3, y4⟩, -⟩ := cells5 hSw.1; obtain ⟨⟨x0, x1, x2⟩, -⟩ := cells3 hSw.2; (try clear hSw); go_simp; (try with_reducible rfl)
    try simp only [Act.put, List.getElem_toArray, List.getElem_cons_succ, List.getElem_cons_zero, List.setIfInBounds_toArray, List.set_cons_zero, List.set_cons_succ]
    refine wpAnyH_take (i := 5) (v := ?_) rfl (by kernel_rfl) (by kernel_rfl) (by kernel_rfl) (fun _ _ _ h => h) (Or.inl ⟨by kernel_rfl, ?_⟩) (by assumption) ?_
    rotate_left
    · intro w hSw; obtain ⟨⟨y0, y1, y2, y3, y4⟩, -⟩ := cells5 hSw.1; obtain ⟨⟨x0, x1, x2⟩, -⟩ := cells3 hSw.2; (try clear hSw); go_simp; (try with_reducible rfl)
    try simp only [Act.put, List.getElem_toArray, List.getElem_cons_succ, List.getElem_cons_zero, List.setIfInBounds_toArray, List.set_cons_zero, List.set_cons_succ]
    refine wpAnyH_ready (rs := [6]) (by kernel_rfl) (by simp) ?_
    refine AllReadyH.cons rfl (fun K hK => ?_) AllReadyH.nil
    go_simp
    refine (unhideR CA _ draws_b).mono ?_
    clear CA
    rintro e w8 ⟨av, rfl, alt8, ⟨mv8, mk8⟩, fl8, l9⟩
    have fl8 : Fl B b none WW w8 := (Fl.of (x := none) (draws_b (k := 1) (w := WW))).then fl8 (fun g e => by cases e)
    have P0 : w8.heap[w.heap.size]? = some (.cells #[.int .i64 k, .string S, .slice a1 n1 c1, .slice a2 n2 c2, .int .i64 q] 42) := fl8.block _ _ P0 (by omega) (by simp) (fun cs fr e => by injection e with _ e; exact absurd e (by decide))
    have P1 : w8.heap[w6.heap.size]? = some (.cells #[.int .i64 2, .slice none 0 0, .int .i64 (s.made.length : Int)] 56) := fl8.block _ _ P1 (by omega) (by simp) (fun cs fr e => by injection e with _ e; exact absurd e (by decide))
    have CF := hideR (ffin_l mk8 s.made.length hn8 k S a1 n1 c1 a2 n2 c2 q av r.2 alt8 (Nat.le_trans l9 (by omega)))
    have HF8 := hideR ((unhideR HFW).then fl8 (fun g e => by cases e))
    obtain ⟨va1, va2, rfl, -, -⟩ := alt8.form
    have h8 := mk8.lt
    have HB8 := hideR mk8.blk
    clear alt8 mk8 fl8 l9 hn8 HMW
    go_wp2_with fail
    refine hK.out _ _ (⟨P0, P1⟩) (fun hHeld => ?_)
    clear hK K
    try simp only [Act.put, List.getElem_toArray, List.getElem_cons_succ, List.getElem_cons_zero, List.setIfInBounds_toArray, List.set_cons_zero, List.set_cons_succ]
    refine wpAnyH_ready (rs := [7]) (by kernel_rfl) (by simp) ?_
    refine AllReadyH.cons rfl (fun K hK => ?_) AllReadyH.nil
    go_simp
    refine (unhideR CF).mono ?_
    clear CF
    rintro e w9 ⟨rfl, mk9, fl9⟩
    have P0 : w9.heap[w.heap.size]? = some (.cells #[.int .i64 k, .string S, .slice a1 n1 c1, .slice a2 n2 c2, .int .i64 q] 42) := fl9.block _ _ P0 (by omega) (by simp) (fun cs fr e => by injection e with _ e; exact absurd e (by decide))
    have P1 : w9.heap[w6.heap.size]? = some (.cells #[.int .i64 2, .slice none 0 0, .int .i64 (s.made.length : Int)] 56) := fl9.block _ _ P1 (by omega) (by simp) (fun cs fr e => by injection e with _ e; exact absurd e (by decide))
    have HF9 := hideR ((unhideR HF8).then fl9 (fun g e => by cases e))
    have L9 := (unhideR HL).fl (unhideR HF9) hb (no_x _) (fun g _ e => by cases e)
    have CP := hideR (fput_l L9 (Nat.le_trans (unhideR HBB) (unhideR HF9).size) 2 (s.made.length : Int) [] none 0 (Rs.nil w9) (Ty.nil w9))
    simp only [List.length_nil] at CP
    have HM9 := hideR mk9
    clear mk9 fl9 L9 HF8 LW PW
    go_wp2_with fail
    refine hK.out _ _ (⟨P0, P1⟩) (fun hHeld => ?_)
    clear hK K
    try simp only [Act.put, List.getElem_toArray, List.getElem_cons_succ, List.getElem_cons_zero, List.setIfInBounds_toArray, List.set_cons_zero, List.set_cons_succ]
    refine wpAnyH_done (by kernel_rfl) ?_ _
    obtain ⟨⟨x0, x1, x2⟩, -⟩ := cells3 P1
    clear P0 P1 HB8 hHeld
    go_wp2_with fail
    refine (unhideR CP).mono ?_
    clear CP
    rintro e w10 ⟨v10, rfl, lv10, gr10, nx10, kr10⟩
    obtain ⟨ya, yc, rfl⟩ := lv10.form
    go_wp2_with fail
    go_ret
    rw [unhideR FIN]
    exact put_end (unhideR HL) (unhideR MB) (unhideR HM9) (unhideR HF9) lv10 gr10 nx10
end Go.Proofs.YtamefbpdnblbdaaGreatDoor.F

