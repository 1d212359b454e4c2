/- Parts of the proof of NullJoin that stand ahead of it (30: FlCopy, FlMay, FlAlts, FlSmall, FlAnew, FlPart). -/
import Derived.Test.YtamefbpdnblbdaaGreatDoorNullJoinM29
import Derived.Laws.StructEq
import Derived.Deep.QuietTactic
import Derived.BigQuiet
import Derived.Test.YtamefbpdnblbdaaGreatDoorNullJoinM4
namespace Go.Proofs.YtamefbpdnblbdaaGreatDoor.F
open Go.RowKit Go.Proofs.YtamefbpdnblbdaaGreatDoor.T Go.Proofs.YtamefbpdnblbdaaGreatDoor.R
set_option linter.unusedVariables false
set_option linter.unusedSimpArgs false

theorem only_one {f : PF} {p x : PT} {m : Mk} (h : psP p = [x]) : onlyM f p m = f m [] x := by unfold onlyM; rw [h]
theorem only_not {f : PF} {p : PT} {m : Mk} (h : (psP p).length ≠ 1) : onlyM f p m = (m.stop (atP p) 7, []) := by
  unfold onlyM
  split
  · rename_i x e; rw [e] at h; simp at h
  · rfl
set_option maxRecDepth 20000 in
set_option maxHeartbeats 4000000 in
theorem fonly_l {ns : List (List Int)} {n : Nat} {d : Int} (HP : PartC ns n d) {D : Nat → Prop} {w : World} {B b m : Nat} {s : Mk} (pv : Value) (p : PT) (hB : B ≤ w.heap.size) (hD : ∀ k, w.heap.size ≤ k → D k) (h : Mak D w B b m ns d s) (hp : PartB B (n + 1) w pv p) (hs : smP (n + 1) p) :
    Calls Tryz.prog 133 #[.pointer (some ⟨b, 0, none⟩), pv] w (LfR D B b m ns d (.slice none 0 0) w (onlyM (partM ns n d) p s)) := by
  obtain ⟨mv, hm⟩ := h
  obtain ⟨k, t, R, L, q, aR, cR, aL, cL, cs, rfl, rfl, f1, ht, f3, -, -, h5, hc⟩ := hp
  obtain ⟨-, -, hsl, hsm⟩ := hs
  simp only [ps_mk] at hsl hsm
  have B1 : ∀ o, Below w.heap.size w (w.alloc o) := fun o => Below.new1 o
  have hlt := hm.lt
  have hcl := h5.1
  have hmx := h5.2.1
  unfold maxLen at hmx
  by_cases h1 : L.length = 1
  · obtain ⟨x, rfl⟩ := List.length_eq_one_iff.1 h1
    have FIN : Hid (onlyM (partM ns n d) (mk k t R [x] q) s = partM ns n d s [] x) := only_one rfl
    obtain ⟨g, off, k1, S1, a1, n1, c1, a2, n2, c2, p1, rfl, hg, q0, q1, q2, q3, q4, pv1, hd⟩ := parts_at h5 hc 0 (by simp)
    have e1 : x = p1 := by simpa using hd
    subst e1
    simp only [Nat.mul_zero, Nat.add_zero, List.length_cons, List.length_nil, Nat.zero_add] at q0 q1 q2 q3 q4 hcl ⊢
    have Q0 : ∀ o, (w.alloc o).cell? ⟨g, off, none⟩ = some (.int .i64 k1) := fun o => ((B1 o).cell hg).trans q0
    have Q1 : ∀ o, (w.alloc o).cell? ⟨g, off + 1, none⟩ = some (.string S1) := fun o => ((B1 o).cell hg).trans q1
    have Q2 : ∀ o, (w.alloc o).cell? ⟨g, off + 2, none⟩ = some (.slice a1 n1 c1) := fun o => ((B1 o).cell hg).trans q2
    have Q3 : ∀ o, (w.alloc o).cell? ⟨g, off + 3, none⟩ = some (.slice a2 n2 c2) := fun o => ((B1 o).cell hg).trans q3
    have Q4 : ∀ o, (w.alloc o).cell? ⟨g, off + 4, none⟩ = some (.int .i64 (atP x)) := fun o => ((B1 o).cell hg).trans q4
    have CP := hideR (fun W (bW : Below w.heap.size w W) => HP D W B b m s (.slice none 0 0) [] _ x (by have := bW.size; omega) (fun k hk => hD k (by have := bW.size; omega)) ⟨mv, (hm.later bW).weak (fun g _ hd => ⟨hd, by simp [Value.ownBlock]⟩)⟩ (LV.nil W B) (PartB.kept (fun g hg => ⟨hg, bW.block g (by omega)⟩) (KR.of bW) n _ x pv1) (hsm x (by simp)))
    clear hm h5 hc hsm hD HP ht q0 q1 q2 q3 q4 pv1 hd h1
    generalize strOfNums t = S at *
    go_enter Tryz.func133, Tryz.ntmps133
    go_wp2_with fail
    refine (unhideR CP _ (B1 _)).mono ?_
    clear CP
    rintro e w2 lf
    obtain ⟨v2, rfl, lv2, -⟩ := id lf
    obtain ⟨ya, yc, rfl⟩ := lv2.form
    have HLF := hideR lf
    clear lf lv2
    go_wp2_with fail
    go_ret
    rw [unhideR FIN]
    obtain ⟨v3, e3, l1, l2, l3, l4⟩ := unhideR HLF
    refine ⟨v3, e3, l1, l2, (Fl.of (x := none) (B1 _)).then l3 (fun g e => by cases e), fun g hg => ?_⟩
    rcases l4 g hg with c | c
    · exact .inl c
    · exact .inr (Nat.le_trans (Nat.le_succ _) (by simpa using c))
  · have FIN : Hid (onlyM (partM ns n d) (mk k t R L q) s = (s.stop q 7, [])) := only_not (by simpa using h1)
    have hbb : ((L.length : Int) != 1) = true := by rw [bne_iff_ne]; omega
    have CS := hideR (fun W (bW : Below w.heap.size w W) => fstop_l (hm.later bW) q 7)
    have hBm := hm.hB
    clear hm h5 hc hsm hD HP ht
    generalize strOfNums t = S at *
    generalize L.length = nL at *
    go_enter Tryz.func133, Tryz.ntmps133
    go_wp2_with fail
    refine (unhideR CS _ (B1 _)).mono ?_
    rintro e w2 ⟨rfl, hm2, f2⟩
    clear CS
    go_wp2_with fail
    go_ret
    rw [unhideR FIN]
    exact ⟨_, rfl, LV.nil _ _, ⟨mv, hm2.weak (fun g _ hd => ⟨hd, by simp [Value.ownBlock]⟩)⟩, (Fl.of (x := none) (B1 _)).then f2 (fun g e => by cases e), Nx.refl _ _⟩

/-! ### Symbols are copied -/
def smS (l : List SY) : Prop := ∀ s ∈ l, s.2.1.length ≤ 1000000
theorem SyC.one {w : World} : ∀ (l : List SY) (cs : List Value), SyC w l cs → ∀ u ∈ cs, u.oneCell' = true := by
  intro l
  induction l with
  | nil => intro cs h u hu; have : cs = [] := h; subst this; cases hu
  | cons s l ih =>
    intro cs h u hu
    obtain ⟨a, c, cs', rfl, -, -, ht⟩ := h
    rcases List.mem_cons.1 hu with rfl | hu
    · rfl
    rcases List.mem_cons.1 hu with rfl | hu
    · rfl
    rcases List.mem_cons.1 hu with rfl | hu
    · rfl
    exact ih _ ht u hu
theorem SyC.at {w : World} : ∀ (l : List SY) (cs : List Value) (j : Nat), SyC w l cs → j < l.length → ∃ s a c, s ∈ l ∧ l.drop j = s :: l.drop (j + 1) ∧ cs[3 * j]? = some (.int .i64 s.1) ∧ cs[3 * j + 1]? = some (.slice a s.2.1.length c) ∧ cs[3 * j + 2]? = some (.int .i64 s.2.2) ∧ Rs w a s.2.1.length c s.2.1 ∧ Ty w a ∧
    ∀ (X : World) (a' : Option Addr) (c' : Nat), KR w X → Rs X a' s.2.1.length c' s.2.1 → Ty X a' → SyC X l (cs.set (3 * j + 1) (.slice a' s.2.1.length c')) := by
  intro l
  induction l with
  | nil => intro cs j _ hj; simp at hj
  | cons x l ih =>
    intro cs j h hj
    obtain ⟨a, c, cs', rfl, hr, hy, ht⟩ := h
    cases j with
    | zero => exact ⟨x, a, c, List.mem_cons_self .., rfl, rfl, rfl, rfl, hr, hy, fun X a' c' k hr' hy' => ⟨a', c', cs', rfl, hr', hy', SyC.kr k _ _ ht⟩⟩
    | succ j =>
      obtain ⟨s, a1, c1, hm, hd, h0, h1, h2, hr1, hy1, hset⟩ := ih cs' j ht (by simp at hj; omega)
      refine ⟨s, a1, c1, List.mem_cons_of_mem _ hm, by simpa using hd, ?_, ?_, ?_, hr1, hy1, fun X a' c' k hr' hy' => ?_⟩
      · rw [show 3 * (j + 1) = 3 * j + 1 + 1 + 1 by omega]; simpa using h0
      · rw [show 3 * (j + 1) + 1 = 3 * j + 1 + 1 + 1 + 1 by omega]; simpa using h1
      · rw [show 3 * (j + 1) + 2 = 3 * j + 2 + 1 + 1 + 1 by omega]; simpa using h2
      · obtain ⟨q1, q2⟩ := rs_kr k hr hy
        refine ⟨a, c, cs'.set (3 * j + 1) (.slice a' s.2.1.length c'), ?_, q1, q2, hset X a' c' k hr' hy'⟩
        rw [show 3 * (j + 1) + 1 = 3 * j + 1 + 1 + 1 + 1 by omega]
        rfl
set_option maxRecDepth 20000 in
set_option maxHeartbeats 1000000 in
theorem cloneS_l {B : Nat} (v : Value) (l : List SY) (w : World) (h : LV w B v l) :
    Calls Tryz.prog 166 #[v] w fun e w' => ∃ v', e = .returned v' ∧ LV w' w.heap.size v' l ∧ Below w.heap.size w w' := by
  obtain ⟨a, c, rfl⟩ := h.form
  obtain ⟨h41, cs, own, hs⟩ := h
  have hcl := SyC.len _ _ hs
  cases a with
  | none =>
    have hl0 : l = [] := by
      rcases own.2 with ⟨e, h0⟩ | ⟨g, cap, cur, e, -⟩
      · exact List.eq_nil_of_length_eq_zero h0
      · injection e with e1; cases e1
    subst hl0
    clear own hs hcl
    have heq : ∀ W, (binOp .eql 46 (.slice none 0 c) (.slice none 0 0)).run Tryz.prog W = .ok (.bool true) W := fun W => by kernel_rfl
    go_enter Tryz.func166, Tryz.ntmps166
    go_wp2_with fail
    go_ret
    exact ⟨_, rfl, LV.nil _ _, Below.refl _ _⟩
  | some ad =>
    obtain ⟨i0, hi0, hz0, hz1, hz2⟩ := info_parts sym_info
    have HN : ∀ o, ∀ (j : Nat) (u : Value), cs[j]? = some u → (w.alloc o).cell? (ad.add j) = some u := by
      intro o j u hu
      obtain ⟨g', h1, h2, -⟩ := own_cell own hu
      simp only [Value.ownBlock] at h1
      rcases own.2 with ⟨e, h0⟩ | ⟨g, cap, cur, e, hb, hg, -⟩
      · cases e
      · injection e with e1 e2 e3
        injection e1 with e1
        subst e1
        injection h1 with h1
        subst h1
        rw [Addr.add_lit, Nat.zero_add, World.cell?_of_block ((Below.new1 o).block _ (Array.getElem?_eq_some_iff.1 hg).1)]
        exact h2
    have heq : ∀ W, (binOp .eql 46 (.slice (some ad) l.length c) (.slice none 0 0)).run Tryz.prog W = .ok (.bool false) W := fun W => by kernel_rfl
    have H1 := SyC.one _ _ hs
    have HS := hideR hs
    clear hs own
    have HO : ∀ w : World, (w.alloc (.cells #[] 56)).ownsRow w.heap.size 56 3 (.slice (some ⟨w.heap.size, 0, none⟩) 0 0) 0 [] := fun w => World.ownsRow_made w #[] 0 (Nat.le_refl _) (Nat.zero_le _) rfl
    have hcl' : cs.length = l.length * 3 := by omega
    clear hcl
    go_enter Tryz.func166, Tryz.ntmps166
    go_wp2_with (at_builtin; refine wpList_append_own _ rfl _ _ 46 rfl w.heap.size 56 i0 _ 3 40 Tryz.underlying46 hi0 hz0 hz1 hz2 rfl (by omega) _ _ _ rfl (HO w) ad l.length c cs rfl hcl' (HN _) H1 (by unfold maxLen; omega) (by omega) (by simp) ?_; intro v' w6 hown1 hgrow hnil)
    go_ret
    rw [Nat.zero_add, List.nil_append] at hown1
    have hg2 : (w.alloc (.cells #[] 56)).grownBy w6 (some w.heap.size) := hgrow
    have B6 : Below w.heap.size w w6 := (Below.new1 _).grown hg2 (by simp) (fun k hk => by injection hk; omega)
    exact ⟨v', rfl, ⟨h41, cs, hown1, SyC.kr (KR.of B6) _ _ (unhideR HS)⟩, B6⟩
set_option maxRecDepth 20000 in
set_option maxHeartbeats 4000000 in
theorem copied_l {B : Nat} (v : Value) (l : List SY) (w : World) (h : LV w B v l) (hsm : smS l) :
    Calls Tryz.prog 134 #[v] w fun e w' => ∃ v', e = .returned v' ∧ LV w' w.heap.size v' l ∧ Below w.heap.size w w' := by
  have C1 := hideR (cloneS_l v l w h)
  obtain ⟨a, c, rfl⟩ := h.form
  have h41 := h.1
  have HSM := hideR hsm
  clear h hsm
  generalize hn : l.length = n at *
  have HN := hideR hn
  clear hn
  go_enter Tryz.func134, Tryz.ntmps134
  go_wp2_with fail
  refine (unhideR C1).mono ?_
  clear C1
  rintro e w1 ⟨v1, rfl, lv1, b1⟩
  obtain ⟨a1, c1, rfl⟩ := lv1.form
  rw [unhideR HN] at lv1 ⊢
  have hcap : n ≤ c1 ∧ c1 ≤ maxLen := by
    obtain ⟨-, cs, own, -⟩ := lv1
    rw [unhideR HN] at own
    rcases own.2 with ⟨e, h0⟩ | ⟨g, cap, cur, e, hb, hg, k1, k2, -⟩
    · injection e with e1 e2 e3; subst e3; unfold maxLen; omega
    · injection e with e1 e2 e3; subst e3; exact ⟨k1, k2⟩
  obtain ⟨hc1, hc2⟩ := hcap
  unfold maxLen at hc2
  have LV1 := hideR lv1
  have B1 := hideR b1
  have s1 := b1.size
  clear lv1 b1
  go_wp2_with fail
  go_loopw [8] (fun i wr => ∃ (j : Nat), j ≤ n ∧ i = .int .i64 (j : Int) ∧ Hid (LV wr w.heap.size (.slice a1 n c1) l) ∧ Hid (Below w.heap.size w wr) ∧ w.heap.size ≤ wr.heap.size) (fun i _ => n - (intOf i).toNat)
  case atStart => exact ⟨0, Nat.zero_le _, rfl, LV1, B1, s1⟩
  case round =>
    obtain ⟨j, hj, rfl, hL, hB, hsw⟩ := hrel
    by_cases hlt : j < n
    · obtain ⟨k41, cs, own, hs⟩ := unhideR hL
      obtain ⟨s, a2, c2, hm, hd, q0, q1, q2, hr, hy, hset⟩ := SyC.at l cs j hs (by rw [unhideR HN]; exact hlt)
      obtain ⟨g, e1, cg, fg⟩ := own_cell own q1
      have e2 : a1 = some ⟨g, 0, none⟩ := by
        rcases own.2 with ⟨e, h0⟩ | ⟨g', cap, cur, e, -⟩
        · rw [unhideR HN] at h0; omega
        · injection e with e1' e2 e3
          subst e1'
          simp only [Value.ownBlock, Option.some.injEq] at e1
          rw [e1]
      subst e2
      have hgl : g < wr.heap.size := (own.lt g e1).2
      have hgB : w.heap.size ≤ g := (own.lt g e1).1
      obtain ⟨gc, hgc⟩ := own_blk own g e1
      have CC := hideR (fun W (bW : Below wr.heap.size wr W) => cloneR_l a2 c2 s.2.1 W (hr.later bW (Nat.le_refl _)) (unhideR HSM s hm))
      have NXT := hideR (fun (w2 : World) (b2 : Below wr.heap.size wr w2) (a' : Option Addr) (c' : Nat) (hr' : Rs w2 a' s.2.1.length c' s.2.1) (hy' : Ty w2 a') => show LV (w2.setCell ⟨g, 3 * j + 1, none⟩ (.slice a' s.2.1.length c')) w.heap.size (.slice (some ⟨g, 0, none⟩) n c1) l from by
        have k2 : KR w2 (w2.setCell ⟨g, 3 * j + 1, none⟩ (.slice a' s.2.1.length c')) := KR.set (KR.refl _) ((b2.block g hgl).trans hgc) (by decide) _ _
        obtain ⟨r1, r2⟩ := rs_kr k2 hr' hy'
        refine ⟨k41, _, own_set (ownL b2 own) e1 ?_ _, hset _ a' c' ((KR.of b2).then k2) r1 r2⟩
        exact (List.getElem?_eq_some_iff.1 q1).1)
      have FZ := hideR (fun (w2 : World) (b2 : Below wr.heap.size wr w2) => show w2.cell? ⟨g, 3 * j + 1, none⟩ = some (.slice a2 s.2.1.length c2) ∧ w2.frozen? ⟨g, 3 * j + 1, none⟩ = false from by
        obtain ⟨g', e', c', f'⟩ := own_cell (ownL b2 own) q1
        rw [e1] at e'; injection e' with e'; subst e'
        exact ⟨c', f'⟩)
      have n3 : j * 3 = 3 * j := by omega
      generalize hR : s.2.1 = R at *
      generalize hRn : R.length = rn at *
      have HRN := hideR hRn
      clear own hs hd q0 q1 q2 hr hy hset hgc fg e1 hm hR hRn
      go_wp2_with fail
      refine (unhideR CC _ (Below.refl _ _)).mono ?_
      clear CC
      rintro e w2 ⟨a3, c3, rfl, r3, y3, b2⟩
      obtain ⟨cg2, fg2⟩ := unhideR FZ w2 b2
      have NX := hideR (unhideR NXT w2 b2 a3 c3 r3 y3)
      have hgl2 : g < w2.heap.size := Nat.lt_of_lt_of_le hgl b2.size
      have BB := hideR (show Below w.heap.size w (w2.setCell ⟨g, 3 * j + 1, none⟩ (.slice a3 rn c3)) from ((unhideR hB).trans (b2.mono hsw)).setCell (p := ⟨g, 3 * j + 1, none⟩) hgB _)
      have s2 : w.heap.size ≤ (w2.setCell ⟨g, 3 * j + 1, none⟩ (.slice a3 rn c3)).heap.size := (unhideR BB).size
      clear NXT FZ r3 y3 b2 hL hB
      go_wp2_with fail
      go_roundw
      case rel => exact ⟨j + 1, by omega, by simp, NX, BB, s2⟩
      case measure => simp [intOf]; omega
    · obtain rfl : j = n := by omega
      go_wp2_with fail
      go_ret
      exact ⟨_, rfl, unhideR hL, unhideR hB⟩
end Go.Proofs.YtamefbpdnblbdaaGreatDoor.F

namespace Go.Proofs.YtamefbpdnblbdaaGreatDoor.F
open Go.RowKit Go.Proofs.YtamefbpdnblbdaaGreatDoor.T Go.Proofs.YtamefbpdnblbdaaGreatDoor.R
set_option linter.unusedVariables false
set_option linter.unusedSimpArgs false

def byB (l : List (Int × Int)) : Bool := decide (l.length = 0) || decide ((l.getD (l.length - 1) (0, 0)).2 ≤ 255)
def symB (s : SY) (many : Int) : Bool :=
  if s.1 = 0 then decide (s.2.2 = 0) && (G.mayB s.2.1 && byB s.2.1)
  else if s.1 = 1 then decide (s.2.2 = 0) && G.mayB s.2.1
  else if s.1 = 2 then decide (0 ≤ s.2.2) && (decide (s.2.2 < many) && decide (s.2.1.length = 0))
  else false
def prodB (p : PRD) (many : Int) : Bool := fitsB p.1 && (decide (0 ≤ p.2.1) && (decide (p.2.1 ≤ 63) && (G.mayB p.2.2 && p.1.all fun l => l.all fun s => symB s many)))
def gramB (l : List PRD) : Bool := decide (1 ≤ l.length) && (decide (l.length ≤ 60) && l.all fun p => prodB p l.length)
set_option maxRecDepth 20000 in
set_option maxHeartbeats 1000000 in
theorem ofBytes_l (a : Option Addr) (c : Nat) (l : List (Int × Int)) (w : World) (h : Rs w a l.length c l) :
    Calls Tryz.prog 107 #[.slice a l.length c] w fun e w' => e = .returned (.bool (byB l)) ∧ w' = w := by
  have hc := h.hcap
  have hm := h.hmax
  unfold maxLen at hm
  unfold byB
  by_cases h0 : l.length = 0
  · have b0 : ((l.length : Int) == 0) = true := by rw [h0]; rfl
    rw [decide_eq_true h0]
    clear h
    generalize l.length = n at *
    clear h0
    go_enter Tryz.func107, Tryz.ntmps107
    go_wp2_with fail
    go_ret
    exact ⟨rfl, rfl⟩
  · have b0 : ((l.length : Int) == 0) = false := beq_eq_false_iff_ne.2 (by omega)
    rw [decide_eq_false h0]
    obtain ⟨g, off, e, -, q2⟩ := h.hcell (l.length - 1) (by omega)
    subst e
    have hg : g < w.heap.size := block_lt' q2
    clear h
    have hx : ((l.length : Int) - 1) = ((l.length - 1 : Nat) : Int) := by omega
    have h1 : l.length - 1 < l.length := by omega
    generalize hi : l.length - 1 = i at *
    generalize (l.getD i (0, 0)).2 = H at *
    generalize l.length = n at *
    have HX := hideR hx
    clear hx hi
    have i2 : i * 2 = 2 * i := by omega
    rw [i2] at q2
    have ev : (n : Int) - 1 = (i : Int) := unhideR HX
    clear HX
    go_enter Tryz.func107, Tryz.ntmps107
    go_wp2_with fail
    go_ret
    exact ⟨by simp, rfl⟩
set_option maxRecDepth 20000 in
set_option maxHeartbeats 2000000 in
theorem maySym_l (s : SY) (a : Option Addr) (c : Nat) (many : Int) (w : World) (h : Rs w a s.2.1.length c s.2.1) :
    Calls Tryz.prog 65 #[.agg #[.int .i64 s.1, .slice a s.2.1.length c, .int .i64 s.2.2], .int .i64 many] w fun e w' => e = .returned (.bool (symB s many)) ∧ Below w.heap.size w w' := by
  have B1 : ∀ o, Below w.heap.size w (w.alloc o) := fun o => Below.new1 o
  have CM := hideR (fun W (bW : Below w.heap.size w W) => rgMay_any a s.2.1.length c s.2.1 W (h.later bW (Nat.le_refl _)))
  have CB := hideR (fun W (bW : Below w.heap.size w W) => ofBytes_l a c s.2.1 W (h.later bW (Nat.le_refl _)))
  obtain ⟨k, R, N⟩ := s
  simp only at h CM CB ⊢
  have hc := h.hcap
  have hm := h.hmax
  unfold maxLen at hm
  unfold symB
  simp only
  clear h
  generalize G.mayB R = rm at *
  generalize byB R = rb at *
  generalize R.length = n at *
  by_cases hk0 : k = 0
  · have hk := hk0
    clear hk0
    rw [if_pos hk]
    have bk : (k == 0) = true := by rw [hk]; rfl
    clear hk
    by_cases hN : N = 0
    · have bn : (N == 0) = true := by rw [hN]; rfl
      rw [decide_eq_true hN]
      clear hN
      cases rm with
      | false =>
        clear CB
        go_enter Tryz.func65, Tryz.ntmps65
        go_wp2_with fail
        refine (unhideR CM _ (B1 _)).mono ?_
        rintro e w1 ⟨rfl, b1⟩
        clear CM
        go_wp2_with fail
        go_ret
        exact ⟨by simp, bthen (B1 _) b1⟩
      | true =>
        go_enter Tryz.func65, Tryz.ntmps65
        go_wp2_with fail
        refine (unhideR CM _ (B1 _)).mono ?_
        rintro e w1 ⟨rfl, b1⟩
        clear CM
        obtain ⟨⟨x0, x1, x2⟩, -⟩ := cells3 (kept_new b1)
        go_wp2_with fail
        refine (unhideR CB _ (bthen (B1 _) b1)).mono ?_
        rintro e w2 ⟨rfl, hw2⟩
        subst hw2
        clear CB
        go_wp2_with fail
        go_ret
        exact ⟨by simp, bthen (B1 _) b1⟩
    · have bn : (N == 0) = false := beq_eq_false_iff_ne.2 hN
      rw [decide_eq_false hN]
      clear hN CM CB
      go_enter Tryz.func65, Tryz.ntmps65
      go_wp2_with fail
      go_ret
      exact ⟨by simp, B1 _⟩
  · by_cases hk1 : k = 1
    · have hk := hk1
      clear hk1
      rw [if_neg hk0, if_pos hk]
      have bk0 : (k == 0) = false := beq_eq_false_iff_ne.2 hk0
      have bk : (k == 1) = true := by rw [hk]; rfl
      clear hk hk0
      by_cases hN : N = 0
      · have bn : (N == 0) = true := by rw [hN]; rfl
        rw [decide_eq_true hN]
        clear hN CB
        go_enter Tryz.func65, Tryz.ntmps65
        go_wp2_with fail
        refine (unhideR CM _ (B1 _)).mono ?_
        rintro e w1 ⟨rfl, b1⟩
        clear CM
        go_wp2_with fail
        go_ret
        exact ⟨by simp, bthen (B1 _) b1⟩
      · have bn : (N == 0) = false := beq_eq_false_iff_ne.2 hN
        rw [decide_eq_false hN]
        clear hN CM CB
        go_enter Tryz.func65, Tryz.ntmps65
        go_wp2_with fail
        go_ret
        exact ⟨by simp, B1 _⟩
    · by_cases hk : k = 2
      · rw [if_neg hk0, if_neg hk1, if_pos hk]
        have bk0 : (k == 0) = false := beq_eq_false_iff_ne.2 hk0
        have bk1 : (k == 1) = false := beq_eq_false_iff_ne.2 hk1
        have bk : (k == 2) = true := by rw [hk]; rfl
        clear hk hk0 hk1 CM CB
        by_cases hN : 0 ≤ N
        · have bn : decide (0 ≤ N) = true := decide_eq_true hN
          rw [bn]
          by_cases hM : N < many
          · have bm : decide (N < many) = true := decide_eq_true hM
            rw [bm]
            clear hN hM
            have e0 : decide (n = 0) = ((n : Int) == 0) := by by_cases h : n = 0 <;> simp [h]
            rw [e0]
            go_enter Tryz.func65, Tryz.ntmps65
            go_wp2_with fail
            go_ret
            exact ⟨by simp, B1 _⟩
          · have bm : decide (N < many) = false := decide_eq_false hM
            rw [bm]
            clear hN hM
            go_enter Tryz.func65, Tryz.ntmps65
            go_wp2_with fail
            go_ret
            exact ⟨by simp, B1 _⟩
        · have bn : decide (0 ≤ N) = false := decide_eq_false hN
          rw [bn]
          clear hN
          go_enter Tryz.func65, Tryz.ntmps65
          go_wp2_with fail
          go_ret
          exact ⟨by simp, B1 _⟩
      · rw [if_neg hk0, if_neg hk1, if_neg hk]
        have bk0 : (k == 0) = false := beq_eq_false_iff_ne.2 hk0
        have bk1 : (k == 1) = false := beq_eq_false_iff_ne.2 hk1
        have bk : (k == 2) = false := beq_eq_false_iff_ne.2 hk
        clear hk hk0 hk1 CM CB
        go_enter Tryz.func65, Tryz.ntmps65
        go_wp2_with fail
        go_ret
        exact ⟨rfl, B1 _⟩

theorem syms_at {D : Nat → Prop} {w : World} {x : Option Addr} {cc n : Nat} {l : List SY} (h : SymsV D w (.slice x n cc) l) (j : Nat) (hj : j < l.length) : ∃ g off s a c, x = some ⟨g, off, none⟩ ∧ g < w.heap.size ∧ w.cell? ⟨g, off + 3 * j, none⟩ = some (.int .i64 s.1) ∧ w.cell? ⟨g, off + 3 * j + 1, none⟩ = some (.slice a s.2.1.length c) ∧ w.cell? ⟨g, off + 3 * j + 2, none⟩ = some (.int .i64 s.2.2) ∧ Rs w a s.2.1.length c s.2.1 ∧ Ty w a ∧ l.drop j = s :: l.drop (j + 1) ∧ s ∈ l := by
  obtain ⟨a', c', cs, e, hr, hs⟩ := h
  injection e with e1 e2 e3
  subst e1; subst e3
  obtain ⟨s, a, c, hm, hd, h0, h1, h2, hrs, hty, -⟩ := SyC.at l cs j hs hj
  obtain ⟨g, off, ha, -, q0⟩ := hr.cell h0
  have key : ∀ i u, cs[3 * j + i]? = some u → w.cell? ⟨g, off + 3 * j + i, none⟩ = some u := fun i u hu => by
    obtain ⟨g', off', ha', -, q⟩ := hr.cell hu
    rw [ha] at ha'
    injection ha' with ha'
    injection ha' with e1 e2
    subst e1; subst e2
    rw [Nat.add_assoc]; exact q
  exact ⟨g, off, s, a, c, ha, block_lt' q0, q0, key 1 _ h1, key 2 _ h2, hrs, hty, hd, hm⟩
theorem SymsV.form {D : Nat → Prop} {w : World} {x : Option Addr} {n cc : Nat} {l : List SY} (h : SymsV D w (.slice x n cc) l) : n = l.length ∧ l.length ≤ cc ∧ cc ≤ maxLen := by
  obtain ⟨a', c', cs, e, hr, hs⟩ := h
  injection e with e1 e2 e3
  subst e3
  exact ⟨e2, hr.1, hr.2.1⟩
end Go.Proofs.YtamefbpdnblbdaaGreatDoor.F

namespace Go.Proofs.YtamefbpdnblbdaaGreatDoor.F
open Go.RowKit Go.Proofs.YtamefbpdnblbdaaGreatDoor.T Go.Proofs.YtamefbpdnblbdaaGreatDoor.R
set_option linter.unusedVariables false
set_option linter.unusedSimpArgs false

theorem SymsV.none (D : Nat → Prop) (w : World) : SymsV D w (.slice Option.none 0 0) [] := ⟨Option.none, 0, [], rfl, ⟨Nat.le_refl _, Nat.zero_le _, .inl rfl⟩, rfl⟩
theorem RowT.new {t : TypeId} {D : Nat → Prop} {w : World} {g : Nat} {cs : Array Value} {fr : Nat × Nat} (hg : w.heap[g]? = some (.cells cs t fr)) (hd : D g) (n : Nat) (hn : n ≤ maxLen) : RowT t D w (some ⟨g, 0, none⟩) n n cs.toList :=
  ⟨Nat.le_refl _, hn, .inr ⟨g, 0, cs, fr, rfl, hd, hg, fun j u hu => by rw [Nat.zero_add]; simpa using hu⟩⟩
theorem AltV.two {D : Nat → Prop} {w X : World} (k : Kp D D w X) {v1 v2 : Value} {l1 l2 : List SY} (h1 : SymsV D w v1 l1) (h2 : SymsV D w v2 l2) {g : Nat} {fr : Nat × Nat} (hg : X.heap[g]? = some (.cells #[v1, v2] 46 fr)) (hd : D g) : AltV D X (.slice (some ⟨g, 0, none⟩) 2 2) [l1, l2] :=
  ⟨_, _, _, rfl, RowT.new hg hd 2 (by unfold maxLen; omega), v1, [v2], rfl, h1.kp k, v2, [], rfl, h2.kp k, rfl⟩
theorem AltV.one {D : Nat → Prop} {w X : World} (k : Kp D D w X) {v1 : Value} {l1 : List SY} (h1 : SymsV D w v1 l1) {g : Nat} {fr : Nat × Nat} (hg : X.heap[g]? = some (.cells #[v1] 46 fr)) (hd : D g) : AltV D X (.slice (some ⟨g, 0, none⟩) 1 1) [l1] :=
  ⟨_, _, _, rfl, RowT.new hg hd 1 (by unfold maxLen; omega), v1, [], rfl, h1.kp k, rfl⟩
def AtC (ns : List (List Int)) (n : Nat) (d : Int) (f : Nat) (g : PT → Nat → Mk → Mk × List (List SY)) : Prop :=
  ∀ (D : Nat → Prop) (w : World) (B b m : Nat) (s : Mk) (pv : Value) (p : PT) (nn : Nat), B ≤ w.heap.size → (∀ k, w.heap.size ≤ k → D k) → Mak D w B b m ns d s → PartB B (n + 1) w pv p → smP (n + 1) p →
    Calls Tryz.prog f #[.pointer (some ⟨b, 0, none⟩), pv, .agg #[.int .i64 2, .slice none 0 0, .int .i64 (nn : Int)]] w (AlR D B b m ns d w (g p nn s))
theorem LV.symsN {D : Nat → Prop} {w X : World} {B : Nat} {v : Value} {l : List SY} (h : LV X B v l) (nx : Nx w (.slice none 0 0) v) (hD : ∀ k, w.heap.size ≤ k → D k) : SymsV D X v l :=
  h.syms (fun g hg => by
    rcases nx g hg with c | c
    · cases c
    · exact hD g c)
theorem part_form {B n : Nat} {w : World} {pv : Value} {p : PT} (h : PartB B (n + 1) w pv p) : ∃ k S a1 n1 c1 a2 n2 c2 q, pv = .agg #[.int .i64 k, .string S, .slice a1 n1 c1, .slice a2 n2 c2, .int .i64 q] ∧ k = kdP p ∧ q = atP p := by
  obtain ⟨k, t, R, L, q, aR, cR, aL, cL, cs, rfl, rfl, -⟩ := h
  exact ⟨_, _, _, _, _, _, _, _, _, rfl, rfl, rfl⟩
set_option maxRecDepth 20000 in
set_option maxHeartbeats 4000000 in
theorem fstar_l {ns : List (List Int)} {n : Nat} {d : Int} (HP : PartC ns n d) : AtC ns n d 103 (fun p nn s => ((onlyM (partM ns n d) p s).1, [putS (onlyM (partM ns n d) p s).2 (2, [], (nn : Int)), []])) := by
  intro D w B b m s pv p nn hB hD h hp hs
  obtain ⟨mv, hm⟩ := h
  have B2 : ∀ o1 o2, Below w.heap.size w ((w.alloc o1).alloc o2) := fun o1 o2 => (Below.new1 o1).alloc (by simp) o2
  have CO := hideR (fun W (bW : Below w.heap.size w W) => fonly_l HP pv p (by have := bW.size; omega) (fun k hk => hD k (by have := bW.size; omega)) ⟨mv, hm.later bW⟩ (PartB.kept (fun g hg => ⟨hg, bW.block g (by omega)⟩) (KR.of bW) (n + 1) _ p hp) hs)
  obtain ⟨k, S, a1, n1, c1, a2, n2, c2, q, rfl, -, -⟩ := part_form hp
  have HDD := hideR hD
  have hlt := hm.lt
  have HLT := hideR hB
  clear hm hp hs hD
  dsimp only
  generalize onlyM (partM ns n d) p s = r at *
  go_enter Tryz.func103, Tryz.ntmps103
  go_wp2_with fail
  have P0 : ((w.alloc (.cells #[.int .i64 k, .string S, .slice a1 n1 c1, .slice a2 n2 c2, .int .i64 q] 42)).alloc (.cells #[.int .i64 2, .slice none 0 0, .int .i64 (nn : Int)] 56)).heap[w.heap.size]? = some (.cells #[.int .i64 k, .string S, .slice a1 n1 c1, .slice a2 n2 c2, .int .i64 q] 42) := old_at (heap_alloc_new _ _) _
  have P1 : ((w.alloc (.cells #[.int .i64 k, .string S, .slice a1 n1 c1, .slice a2 n2 c2, .int .i64 q] 42)).alloc (.cells #[.int .i64 2, .slice none 0 0, .int .i64 (nn : Int)] 56)).heap[w.heap.size + 1]? = some (.cells #[.int .i64 2, .slice none 0 0, .int .i64 (nn : Int)] 56) := by have := heap_alloc_new (w.alloc (.cells #[.int .i64 k, .string S, .slice a1 n1 c1, .slice a2 n2 c2, .int .i64 q] 42)) (.cells #[.int .i64 2, .slice none 0 0, .int .i64 (nn : Int)] 56); simpa using this
  have BW : Below w.heap.size w ((w.alloc (.cells #[.int .i64 k, .string S, .slice a1 n1 c1, .slice a2 n2 c2, .int .i64 q] 42)).alloc (.cells #[.int .i64 2, .slice none 0 0, .int .i64 (nn : Int)] 56)) := B2 _ _
  have sW : ((w.alloc (.cells #[.int .i64 k, .string S, .slice a1 n1 c1, .slice a2 n2 c2, .int .i64 q] 42)).alloc (.cells #[.int .i64 2, .slice none 0 0, .int .i64 (nn : Int)] 56)).heap.size = w.heap.size + 2 := by simp
  generalize ((w.alloc (.cells #[.int .i64 k, .string S, .slice a1 n1 c1, .slice a2 n2 c2, .int .i64 q] 42)).alloc (.cells #[.int .i64 2, .slice none 0 0, .int .i64 (nn : Int)] 56)) = WW at *
  refine wp_region_held_drew (S := (fun w' => w'.heap[w.heap.size]? = some (.cells #[.int .i64 k, .string S, .slice a1 n1 c1, .slice a2 n2 c2, .int .i64 q] 42) ∧ w'.heap[w.heap.size + 1]? = some (.cells #[.int .i64 2, .slice none 0 0, .int .i64 (nn : Int)] 56))) (by kernel_rfl) (⟨P0, P1⟩) (fun hHeld => ?_)
  refine wpAnyH_take (i := 0) (v := ?_) rfl (by kernel_rfl) (by kernel_rfl) (by kernel_rfl) (fun _ _ _ h => h) (Or.inl ⟨by kernel_rfl, ?_⟩) (by assumption) ?_
  rotate_left
  · intro w hSw; obtain ⟨⟨y0, y1, y2, y3, y4⟩, -⟩ := cells5 hSw.1; obtain ⟨⟨z0, z1, z2⟩, -⟩ := cells3 hSw.2; (try clear hSw); go_simp; (try with_reducible rfl)
  try simp only [Act.put, List.getElem_toArray, List.getElem_cons_succ, List.getElem_cons_zero, List.setIfInBounds_toArray, List.set_cons_zero, List.set_cons_succ]
  refine wpAnyH_take (i := 1) (v := ?_) rfl (by kernel_rfl) (by kernel_rfl) (by kernel_rfl) (fun _ _ _ h => h) (Or.inl ⟨by kernel_rfl, ?_⟩) (by assumption) ?_
  rotate_left
  · intro w hSw; obtain ⟨⟨y0, y1, y2, y3, y4⟩, -⟩ := cells5 hSw.1; obtain ⟨⟨z0, z1, z2⟩, -⟩ := cells3 hSw.2; (try clear hSw); go_simp; (try with_reducible rfl)
  try simp only [Act.put, List.getElem_toArray, List.getElem_cons_succ, List.getElem_cons_zero, List.setIfInBounds_toArray, List.set_cons_zero, List.set_cons_succ]
  refine wpAnyH_take (i := 3) (v := ?_) rfl (by kernel_rfl) (by kernel_rfl) (by kernel_rfl) (fun _ _ _ h => h) (Or.inl ⟨by kernel_rfl, ?_⟩) (by assumption) ?_
  rotate_left
  · intro w hSw; obtain ⟨⟨y0, y1, y2, y3, y4⟩, -⟩ := cells5 hSw.1; obtain ⟨⟨z0, z1, z2⟩, -⟩ := cells3 hSw.2; (try clear hSw); go_simp; (try with_reducible rfl)
  try simp only [Act.put, List.getElem_toArray, List.getElem_cons_succ, List.getElem_cons_zero, List.setIfInBounds_toArray, List.set_cons_zero, List.set_cons_succ]
  refine wpAnyH_ready (rs := [2]) (by kernel_rfl) (by simp) ?_
  refine AllReadyH.cons rfl (fun K hK => ?_) AllReadyH.nil
  go_simp
  refine (unhideR CO _ (bthen BW draws_b)).mono ?_
  clear CO
  rintro e w1 ⟨v1, rfl, lv1, ⟨mv1, mk1⟩, fl1, nx1⟩
  have P0 : w1.heap[w.heap.size]? = some (.cells #[.int .i64 k, .string S, .slice a1 n1 c1, .slice a2 n2 c2, .int .i64 q] 42) := fl1.block _ _ P0 (by omega) (by simp [Value.ownBlock]) (fun cs fr e => by injection e with _ e; exact absurd e (by decide))
  have P1 : w1.heap[w.heap.size + 1]? = some (.cells #[.int .i64 2, .slice none 0 0, .int .i64 (nn : Int)] 56) := fl1.block _ _ P1 (by omega) (by simp [Value.ownBlock]) (fun cs fr e => by injection e with _ e; exact absurd e (by decide))
  have FW := hideR ((Fl.of (x := none) (b := b) (B := B) (bthen BW (draws_b (k := 1)))).then fl1 (fun g e => by cases e))
  have s1 := (unhideR FW).size
  have sD : WW.drew.heap.size = WW.heap.size := rfl
  have CP := hideR (fun W (bW : Below w1.heap.size w1 W) => fput_l (lv1.later bW) (by have := bW.size; omega) 2 (nn : Int) [] none 0 (Rs.nil W) (Ty.nil W))
  simp only [List.length_nil] at CP
  have I1 := hideR (show InvL D B b m ns d (.slice none 0 0) w r.1 v1 r.2 w1 from ⟨lv1, ⟨mv1, mk1⟩, unhideR FW, fun g hg => by
      rcases nx1 g hg with c | c
      · exact .inl c
      · have c : WW.heap.size ≤ g := c
        exact .inr (by omega)⟩)
  have NV : ∀ g, v1.ownBlock = some g → w.heap.size + 2 ≤ g := fun g hg => by
      rcases nx1 g hg with c | c
      · cases c
      · have c : WW.heap.size ≤ g := c
        omega
  obtain ⟨xa, xc, rfl⟩ := lv1.form
  have HMK1 := hideR mk1
  clear lv1 mk1 nx1 fl1
  go_wp2_with fail
  refine hK.out _ _ (⟨P0, P1⟩) (fun hHeld => ?_)
  clear hK K
  try simp only [Act.put, List.getElem_toArray, List.getElem_cons_succ, List.getElem_cons_zero, List.setIfInBounds_toArray, List.set_cons_zero, List.set_cons_succ]
  refine wpAnyH_ready (rs := [4]) (by kernel_rfl) (by simp) ?_
  refine AllReadyH.cons rfl (fun K hK => ?_) AllReadyH.nil
  go_simp
  refine (unhideR CP _ (Below.refl _ _)).mono ?_
  clear CP
  rintro e w2 ⟨v2, rfl, lv2, gr2, nx2, kr2⟩
  have P0 : w2.heap[w.heap.size]? = some (.cells #[.int .i64 k, .string S, .slice a1 n1 c1, .slice a2 n2 c2, .int .i64 q] 42) := (gr2.block _ (Array.getElem?_eq_some_iff.1 P0).1 (fun e => by have := NV _ e.symm; omega)).trans P0
  have P1 : w2.heap[w.heap.size + 1]? = some (.cells #[.int .i64 2, .slice none 0 0, .int .i64 (nn : Int)] 56) := (gr2.block _ (Array.getElem?_eq_some_iff.1 P1).1 (fun e => by have := NV _ e.symm; omega)).trans P1
  have I2 := hideR ((unhideR I1).on (put_end (unhideR I1).1 (unhideR HMK1).blk (unhideR HMK1) (Fl.refl _ _ _ _) lv2 gr2 nx2))
  obtain ⟨ya, yc, rfl⟩ := lv2.form
  clear lv2 gr2 nx2 kr2 I1 HMK1
  have s2 := (unhideR I2).2.2.1.size
  go_wp2_with fail
  refine hK.out _ _ (⟨P0, P1⟩) (fun hHeld => ?_)
  clear hK K
  try simp only [Act.put, List.getElem_toArray, List.getElem_cons_succ, List.getElem_cons_zero, List.setIfInBounds_toArray, List.set_cons_zero, List.set_cons_succ]
  refine wpAnyH_ready (rs := [5]) (by kernel_rfl) (by simp) ?_
  refine AllReadyH.cons rfl (fun K hK => ?_) AllReadyH.nil
  go_simp
  refine hK.out _ _ (⟨old_at P0 _, old_at P1 _⟩) (fun hHeld => ?_)
  clear hK K
  try simp only [Act.put, List.getElem_toArray, List.getElem_cons_succ, List.getElem_cons_zero, List.setIfInBounds_toArray, List.set_cons_zero, List.set_cons_succ]
  refine wpAnyH_take (i := 6) (v := ?_) rfl (by kernel_rfl) (by kernel_rfl) (by kernel_rfl) (fun _ _ _ h => h) (Or.inl ⟨by kernel_rfl, ?_⟩) (by assumption) ?_
  rotate_left
  · intro w hSw; skip; (try clear hSw); go_simp; (try with_reducible rfl)
  try simp only [Act.put, List.getElem_toArray, List.getElem_cons_succ, List.getElem_cons_zero, List.setIfInBounds_toArray, List.set_cons_zero, List.set_cons_succ]
  refine wpAnyH_done (by kernel_rfl) ?_ _
  go_wp2_with fail
  go_ret
  obtain ⟨lv, ⟨mv3, mk3⟩, fl3, nx3⟩ := (unhideR I2).more (Below.new1 (.cells #[.slice ya (putS r.2 (2, [], (nn : Int))).length yc, .slice none 0 0] 46))
  exact ⟨_, rfl, AltV.two (Kp.weak _ (fun _ h => h)) (lv.symsN nx3 (unhideR HDD)) (SymsV.none _ _) (heap_alloc_new _ _) (unhideR HDD _ s2), ⟨mv3, mk3.weak (fun g _ hd => hd.1)⟩, fl3, by simp⟩
set_option maxRecDepth 20000 in
set_option maxHeartbeats 4000000 in
theorem fopt_l {ns : List (List Int)} {n : Nat} {d : Int} (HP : PartC ns n d) : AtC ns n d 105 (fun p nn s => ((onlyM (partM ns n d) p s).1, [(onlyM (partM ns n d) p s).2, []])) := by
  intro D w B b m s pv p nn hB hD h hp hs
  obtain ⟨mv, hm⟩ := h
  have B2 : ∀ o1 o2, Below w.heap.size w ((w.alloc o1).alloc o2) := fun o1 o2 => (Below.new1 o1).alloc (by simp) o2
  have CO := hideR (fun W (bW : Below w.heap.size w W) => fonly_l HP pv p (by have := bW.size; omega) (fun k hk => hD k (by have := bW.size; omega)) ⟨mv, hm.later bW⟩ (PartB.kept (fun g hg => ⟨hg, bW.block g (by omega)⟩) (KR.of bW) (n + 1) _ p hp) hs)
  obtain ⟨k, S, a1, n1, c1, a2, n2, c2, q, rfl, -, -⟩ := part_form hp
  have HDD := hideR hD
  have hlt := hm.lt
  have HLT := hideR hB
  clear hm hp hs hD
  dsimp only
  generalize onlyM (partM ns n d) p s = r at *
  go_enter Tryz.func105, Tryz.ntmps105
  go_wp2_with fail
  refine (unhideR CO _ (B2 _ _)).mono ?_
  clear CO
  rintro e w1 ⟨v1, rfl, lv1, ⟨mv1, mk1⟩, fl1, nx1⟩
  have FW := hideR ((Fl.of (x := none) (b := b) (B := B) (B2 (.cells #[.int .i64 k, .string S, .slice a1 n1 c1, .slice a2 n2 c2, .int .i64 q] 42) (.cells #[.int .i64 2, .slice none 0 0, .int .i64 (nn : Int)] 56))).then fl1 (fun g e => by cases e))
  have s1 := (unhideR FW).size
  have I1 := hideR (show InvL D B b m ns d (.slice none 0 0) w r.1 v1 r.2 w1 from ⟨lv1, ⟨mv1, mk1⟩, unhideR FW, fun g hg => by
    rcases nx1 g hg with c | c
    · exact .inl c
    · exact .inr (Nat.le_trans (by simp; omega) c)⟩)
  obtain ⟨ya, yc, rfl⟩ := lv1.form
  clear lv1 mk1 nx1 fl1
  go_wp2_with fail
  go_ret
  obtain ⟨lv, ⟨mv3, mk3⟩, fl3, nx3⟩ := (unhideR I1).more (Below.new1 (.cells #[.slice ya r.2.length yc, .slice none 0 0] 46))
  exact ⟨_, rfl, AltV.two (Kp.weak _ (fun _ h => h)) (lv.symsN nx3 (unhideR HDD)) (SymsV.none _ _) (heap_alloc_new _ _) (unhideR HDD _ s1), ⟨mv3, mk3.weak (fun g _ hd => hd.1)⟩, fl3, by simp⟩
theorem own_weak {w : World} {B B' : Nat} {t : TypeId} {sz : Nat} {v : Value} {n : Nat} {cs : List Value} (h : w.ownsRow B t sz v n cs) (hB : B' ≤ B) : w.ownsRow B' t sz v n cs := by
  refine ⟨h.1, ?_⟩
  rcases h.2 with e | ⟨g, cap, cur, e, hb, rest⟩
  · exact .inl e
  · exact .inr ⟨g, cap, cur, e, Nat.le_trans hB hb, rest⟩
theorem LV.lower {w : World} {B B' : Nat} {v : Value} {l : List SY} (h : LV w B v l) (hB : B' ≤ B) : LV w B' v l := by
  obtain ⟨h1, cs, own, hs⟩ := h
  exact ⟨h1, cs, own_weak own hB, hs⟩
set_option maxRecDepth 20000 in
set_option maxHeartbeats 4000000 in
theorem fplus_l {ns : List (List Int)} {n : Nat} {d : Int} (HP : PartC ns n d) (HS : ∀ p s, smP (n + 1) p → smS (onlyM (partM ns n d) p s).2) : AtC ns n d 104 (fun p nn s => ((onlyM (partM ns n d) p s).1, [putS (onlyM (partM ns n d) p s).2 (2, [], (nn : Int)), (onlyM (partM ns n d) p s).2])) := by
  intro D w B b m s pv p nn hB hD h hp hs
  obtain ⟨mv, hm⟩ := h
  have B2 : ∀ o1 o2, Below w.heap.size w ((w.alloc o1).alloc o2) := fun o1 o2 => (Below.new1 o1).alloc (by simp) o2
  have CO := hideR (fun W (bW : Below w.heap.size w W) => fonly_l HP pv p (by have := bW.size; omega) (fun k hk => hD k (by have := bW.size; omega)) ⟨mv, hm.later bW⟩ (PartB.kept (fun g hg => ⟨hg, bW.block g (by omega)⟩) (KR.of bW) (n + 1) _ p hp) hs)
  obtain ⟨k, S, a1, n1, c1, a2, n2, c2, q, rfl, -, -⟩ := part_form hp
  have HSM := hideR (HS p s hs)
  have HDD := hideR hD
  have hlt := hm.lt
  have HLT := hideR hB
  clear hm hp hs hD HS
  dsimp only
  generalize onlyM (partM ns n d) p s = r at *
  go_enter Tryz.func104, Tryz.ntmps104
  go_wp2_with fail
  have P0 : ((w.alloc (.cells #[.int .i64 k, .string S, .slice a1 n1 c1, .slice a2 n2 c2, .int .i64 q] 42)).alloc (.cells #[.int .i64 2, .slice none 0 0, .int .i64 (nn : Int)] 56)).heap[w.heap.size]? = some (.cells #[.int .i64 k, .string S, .slice a1 n1 c1, .slice a2 n2 c2, .int .i64 q] 42) := old_at (heap_alloc_new _ _) _
  have P1 : ((w.alloc (.cells #[.int .i64 k, .string S, .slice a1 n1 c1, .slice a2 n2 c2, .int .i64 q] 42)).alloc (.cells #[.int .i64 2, .slice none 0 0, .int .i64 (nn : Int)] 56)).heap[w.heap.size + 1]? = some (.cells #[.int .i64 2, .slice none 0 0, .int .i64 (nn : Int)] 56) := by have := heap_alloc_new (w.alloc (.cells #[.int .i64 k, .string S, .slice a1 n1 c1, .slice a2 n2 c2, .int .i64 q] 42)) (.cells #[.int .i64 2, .slice none 0 0, .int .i64 (nn : Int)] 56); simpa using this
  have BW : Below w.heap.size w ((w.alloc (.cells #[.int .i64 k, .string S, .slice a1 n1 c1, .slice a2 n2 c2, .int .i64 q] 42)).alloc (.cells #[.int .i64 2, .slice none 0 0, .int .i64 (nn : Int)] 56)) := B2 _ _
  have sW : ((w.alloc (.cells #[.int .i64 k, .string S, .slice a1 n1 c1, .slice a2 n2 c2, .int .i64 q] 42)).alloc (.cells #[.int .i64 2, .slice none 0 0, .int .i64 (nn : Int)] 56)).heap.size = w.heap.size + 2 := by simp
  generalize ((w.alloc (.cells #[.int .i64 k, .string S, .slice a1 n1 c1, .slice a2 n2 c2, .int .i64 q] 42)).alloc (.cells #[.int .i64 2, .slice none 0 0, .int .i64 (nn : Int)] 56)) = WW at *
  refine (unhideR CO _ BW).mono ?_
  clear CO
  rintro e w1 ⟨v1, rfl, lv1, ⟨mv1, mk1⟩, fl1, nx1⟩
  have P1 : w1.heap[w.heap.size + 1]? = some (.cells #[.int .i64 2, .slice none 0 0, .int .i64 (nn : Int)] 56) := fl1.block _ _ P1 (by omega) (by simp [Value.ownBlock]) (fun cs fr e => by injection e with _ e; exact absurd e (by decide))
  have FW := hideR ((Fl.of (x := none) (b := b) (B := B) BW).then fl1 (fun g e => by cases e))
  have s1 := (unhideR FW).size
  have hw1 : w.heap.size + 1 < w1.heap.size := (Array.getElem?_eq_some_iff.1 P1).1
  have HP1 := hideR P1
  have CC := hideR (fun W (bW : Below w1.heap.size w1 W) => copied_l v1 r.2 W (lv1.later bW) (unhideR HSM))
  have I1 := hideR (show InvL D B b m ns d (.slice none 0 0) w r.1 v1 r.2 w1 from ⟨lv1, ⟨mv1, mk1⟩, unhideR FW, fun g hg => by
    rcases nx1 g hg with c | c
    · exact .inl c
    · exact .inr (by omega)⟩)
  obtain ⟨xa, xc, rfl⟩ := lv1.form
  clear lv1 mk1 nx1 fl1
  go_wp2_with fail
  refine wp_region_held_drew (S := (fun w' => w'.heap[w.heap.size + 1]? = some (.cells #[.int .i64 2, .slice none 0 0, .int .i64 (nn : Int)] 56))) (by kernel_rfl) (P1) (fun hHeld => ?_)
  refine wpAnyH_take (i := 0) (v := ?_) rfl (by kernel_rfl) (by kernel_rfl) (by kernel_rfl) (fun _ _ _ h => h) (Or.inl ⟨by kernel_rfl, ?_⟩) (by assumption) ?_
  rotate_left
  · intro w hSw; obtain ⟨⟨z0, z1, z2⟩, -⟩ := cells3 hSw; (try clear hSw); go_simp; (try with_reducible rfl)
  try simp only [Act.put, List.getElem_toArray, List.getElem_cons_succ, List.getElem_cons_zero, List.setIfInBounds_toArray, List.set_cons_zero, List.set_cons_succ]
  refine wpAnyH_take (i := 2) (v := ?_) rfl (by kernel_rfl) (by kernel_rfl) (by kernel_rfl) (fun _ _ _ h => h) (Or.inl ⟨by kernel_rfl, ?_⟩) (by assumption) ?_
  rotate_left
  · intro w hSw; obtain ⟨⟨z0, z1, z2⟩, -⟩ := cells3 hSw; (try clear hSw); go_simp; (try with_reducible rfl)
  try simp only [Act.put, List.getElem_toArray, List.getElem_cons_succ, List.getElem_cons_zero, List.setIfInBounds_toArray, List.set_cons_zero, List.set_cons_succ]
  refine wpAnyH_take (i := 4) (v := ?_) rfl (by kernel_rfl) (by kernel_rfl) (by kernel_rfl) (fun _ _ _ h => h) (Or.inl ⟨by kernel_rfl, ?_⟩) (by assumption) ?_
  rotate_left
  · intro w hSw; obtain ⟨⟨z0, z1, z2⟩, -⟩ := cells3 hSw; (try clear hSw); go_simp; (try with_reducible rfl)
  try simp only [Act.put, List.getElem_toArray, List.getElem_cons_succ, List.getElem_cons_zero, List.setIfInBounds_toArray, List.set_cons_zero, List.set_cons_succ]
  refine wpAnyH_ready (rs := [1]) (by kernel_rfl) (by simp) ?_
  refine AllReadyH.cons rfl (fun K hK => ?_) AllReadyH.nil
  go_simp
  refine (unhideR CC _ draws_b).mono ?_
  clear CC
  rintro e w2 ⟨v2, rfl, lv2, b2⟩
  have b2 : Below w1.heap.size w1 w2 := bthen (w1 := w1.drew) (draws_b (k := 1)) b2
  have sD : w1.drew.heap.size = w1.heap.size := rfl
  have s2 := b2.size
  have P1 : w2.heap[w.heap.size + 1]? = some (.cells #[.int .i64 2, .slice none 0 0, .int .i64 (nn : Int)] 56) := (b2.block _ hw1).trans P1
  have CP := hideR (fput_l (lv2.lower (show B ≤ w1.drew.heap.size from Nat.le_trans (unhideR HLT) s1)) (Nat.le_trans (unhideR HLT) (Nat.le_trans s1 s2)) 2 (nn : Int) [] none 0 (Rs.nil w2) (Ty.nil w2))
  simp only [List.length_nil] at CP
  have HLV2 := hideR lv2
  have HB2 := hideR b2
  obtain ⟨ya, yc, rfl⟩ := lv2.form
  clear lv2 b2
  go_wp2_with fail
  refine hK.out _ _ (P1) (fun hHeld => ?_)
  clear hK K
  try simp only [Act.put, List.getElem_toArray, List.getElem_cons_succ, List.getElem_cons_zero, List.setIfInBounds_toArray, List.set_cons_zero, List.set_cons_succ]
  refine wpAnyH_ready (rs := [3]) (by kernel_rfl) (by simp) ?_
  refine AllReadyH.cons rfl (fun K hK => ?_) AllReadyH.nil
  go_simp
  refine (unhideR CP).mono ?_
  clear CP
  rintro e w3 ⟨v3, rfl, lv3, gr3, nx3, kr3⟩
  have b3 : Below w1.heap.size w1 w3 := (unhideR HB2).grown gr3 s2 (fun k hk => ((unhideR HLV2).lt k hk).1)
  have P1 : w3.heap[w.heap.size + 1]? = some (.cells #[.int .i64 2, .slice none 0 0, .int .i64 (nn : Int)] 56) := (b3.block _ hw1).trans (show w1.heap[w.heap.size + 1]? = some (.cells #[.int .i64 2, .slice none 0 0, .int .i64 (nn : Int)] 56) from unhideR HP1)
  have I3 := hideR ((unhideR I1).more b3)
  have V3 : SymsV D w3 v3 (putS r.2 (2, [], (nn : Int))) := lv3.syms (fun g hg => by
      rcases nx3 g hg with c | c
      · exact unhideR HDD g (Nat.le_trans s1 ((unhideR HLV2).lt g c).1)
      · exact unhideR HDD g (Nat.le_trans s1 (Nat.le_trans s2 c)))
  have HV3 := hideR V3
  have s3 := gr3.size
  obtain ⟨za, zc, rfl⟩ := lv3.form
  clear lv3 gr3 nx3 kr3 b3 V3 I1 HLV2 HB2
  go_wp2_with fail
  refine hK.out _ _ (P1) (fun hHeld => ?_)
  clear hK K
  try simp only [Act.put, List.getElem_toArray, List.getElem_cons_succ, List.getElem_cons_zero, List.setIfInBounds_toArray, List.set_cons_zero, List.set_cons_succ]
  refine wpAnyH_ready (rs := [5]) (by kernel_rfl) (by simp) ?_
  refine AllReadyH.cons rfl (fun K hK => ?_) AllReadyH.nil
  go_simp
  refine hK.out _ _ (old_at P1 _) (fun hHeld => ?_)
  clear hK K
  try simp only [Act.put, List.getElem_toArray, List.getElem_cons_succ, List.getElem_cons_zero, List.setIfInBounds_toArray, List.set_cons_zero, List.set_cons_succ]
  refine wpAnyH_take (i := 6) (v := ?_) rfl (by kernel_rfl) (by kernel_rfl) (by kernel_rfl) (fun _ _ _ h => h) (Or.inl ⟨by kernel_rfl, ?_⟩) (by assumption) ?_
  rotate_left
  · intro w hSw; skip; (try clear hSw); go_simp; (try with_reducible rfl)
  try simp only [Act.put, List.getElem_toArray, List.getElem_cons_succ, List.getElem_cons_zero, List.setIfInBounds_toArray, List.set_cons_zero, List.set_cons_succ]
  refine wpAnyH_done (by kernel_rfl) ?_ _
  go_wp2_with fail
  go_ret
  have BN := Below.new1 (w := w3) (.cells #[.slice za (putS r.2 (2, [], (nn : Int))).length zc, .slice xa r.2.length xc] 46)
  obtain ⟨lv, ⟨mv3, mk3⟩, fl3, nx3⟩ := (unhideR I3).more BN
  exact ⟨_, rfl, AltV.two (Kp.weak _ (fun _ h => h)) ((unhideR HV3).kp (Kp.of BN)) (lv.symsN nx3 (unhideR HDD)) (heap_alloc_new _ _) (unhideR HDD _ (Nat.le_trans s1 (Nat.le_trans s2 s3))), ⟨mv3, mk3.weak (fun g _ hd => hd.1)⟩, fl3, by simp⟩
end Go.Proofs.YtamefbpdnblbdaaGreatDoor.F

namespace Go.Proofs.YtamefbpdnblbdaaGreatDoor.F
open Go.Proofs.YtamefbpdnblbdaaGreatDoor.T Go.Proofs.YtamefbpdnblbdaaGreatDoor.R
set_option linter.unusedVariables false
set_option linter.unusedSimpArgs false

theorem stop_len (s : Mk) (q y : Int) : (s.stop q y).made.length = s.made.length := by unfold Mk.stop; split <;> rfl
theorem fin_len (s : Mk) (n : Nat) (q : Int) (A : List (List SY)) : (s.fin n q A).made.length = s.made.length := by
  unfold Mk.fin
  split
  · simp [setA_len]
  · simp [setA_len, stop_len]
def Mono (f : PF) : Prop := ∀ m l p, m.made.length ≤ (f m l p).1.made.length ∧ (m.made.length ≤ 60 → (f m l p).1.made.length ≤ 60)
theorem call_mono (ns : List (List Int)) : Mono (callS ns) := by
  intro m l p
  unfold callS
  split
  · exact ⟨Nat.le_refl _, id⟩
  · simp [stop_len]
theorem seq_mono {f : PF} (hf : Mono f) : ∀ (ps : List PT) (m : Mk) (l : List SY), m.made.length ≤ (seqM f ps m l).1.made.length ∧ (m.made.length ≤ 60 → (seqM f ps m l).1.made.length ≤ 60) := by
  intro ps
  induction ps with
  | nil => intro m l; exact ⟨Nat.le_refl _, id⟩
  | cons p ps ih =>
    intro m l
    unfold seqM
    split
    · exact ⟨Nat.le_refl _, id⟩
    · have h1 := hf m l p
      have h2 := ih (f m l p).1 (f m l p).2
      exact ⟨Nat.le_trans h1.1 h2.1, fun h => h2.2 (h1.2 h)⟩
theorem each_mono {f : PF} (hf : Mono f) : ∀ (ps : List PT) (m : Mk) (a : List (List SY)), m.made.length ≤ (eachM f ps m a).1.made.length ∧ (m.made.length ≤ 60 → (eachM f ps m a).1.made.length ≤ 60) := by
  intro ps
  induction ps with
  | nil => intro m a; exact ⟨Nat.le_refl _, id⟩
  | cons p ps ih =>
    intro m a
    unfold eachM
    split
    · exact ⟨Nat.le_refl _, id⟩
    · have h1 := hf m [] p
      have h2 := ih (f m [] p).1 (if a.length ≤ 8 then a ++ [(f m [] p).2] else a)
      exact ⟨Nat.le_trans h1.1 h2.1, fun h => h2.2 (h1.2 h)⟩
theorem only_mono {f : PF} (hf : Mono f) (p : PT) (m : Mk) : m.made.length ≤ (onlyM f p m).1.made.length ∧ (m.made.length ≤ 60 → (onlyM f p m).1.made.length ≤ 60) := by
  unfold onlyM
  split
  · exact hf m [] _
  · simp [stop_len]
theorem alts_mono {f : PF} (hf : Mono f) (p : PT) (n : Nat) (m : Mk) : m.made.length ≤ (altsM f p n m).1.made.length ∧ (m.made.length ≤ 60 → (altsM f p n m).1.made.length ≤ 60) := by
  unfold altsM
  split
  · exact each_mono hf _ _ _
  · split
    · exact only_mono hf p m
    · split
      · exact only_mono hf p m
      · exact only_mono hf p m
theorem anew_mono {f : PF} (hf : Mono f) : Mono (anewM f) := by
  intro m l p
  unfold anewM
  split
  · simp [stop_len]
  · rename_i h60
    have h := alts_mono hf p m.made.length ⟨m.made ++ [([], 0, [])], m.left, m.pl, m.why⟩
    simp only [List.length_append, List.length_cons, List.length_nil, Nat.zero_add] at h
    simp only [fin_len]
    exact ⟨by omega, fun h6 => h.2 (by omega)⟩
theorem way_mono (ns : List (List Int)) {f : PF} (hf : Mono f) : Mono (wayM ns f) := by
  intro m l p
  unfold wayM
  split
  · exact call_mono ns m l p
  · split
    · exact ⟨Nat.le_refl _, id⟩
    · split
      · exact ⟨Nat.le_refl _, id⟩
      · split
        · exact ⟨Nat.le_refl _, id⟩
        · split
          · exact seq_mono hf _ _ _
          · exact anew_mono hf m l p
theorem part_mono (ns : List (List Int)) : ∀ (n : Nat) (d : Int), Mono (partM ns n d) := by
  intro n
  induction n with
  | zero => intro d m l p; exact ⟨Nat.le_refl _, id⟩
  | succ n ih =>
    intro d m l p
    unfold partM
    split
    · simp [stop_len]
    · exact way_mono ns (ih (d + 1)) ⟨m.made, m.left - 1, m.pl, m.why⟩ l p
def Sm (n : Nat) (f : PF) : Prop := ∀ m l p, smP n p → smS l → smS (f m l p).2
theorem put_sm {l : List SY} (h : smS l) {s : SY} (hs : s.2.1.length ≤ 1000000) : smS (putS l s) := by
  unfold putS
  split
  · exact h
  · intro x hx
    rcases List.mem_append.1 hx with c | c
    · exact h x c
    · simp at c; subst c; exact hs
theorem text_sm : ∀ (t : List Int) (l : List SY), smS l → smS (textS t l) := by
  intro t
  induction t with
  | nil => intro l h; exact h
  | cons c t ih =>
    intro l h
    unfold textS
    split
    · exact h
    · exact ih _ (put_sm h (by simp))
theorem seq_sm {n : Nat} {f : PF} (hf : Sm n f) : ∀ (ps : List PT) (m : Mk) (l : List SY), (∀ x ∈ ps, smP n x) → smS l → smS (seqM f ps m l).2 := by
  intro ps
  induction ps with
  | nil => intro m l _ h; exact h
  | cons p ps ih =>
    intro m l hp h
    unfold seqM
    split
    · exact h
    · exact ih _ _ (fun x hx => hp x (List.mem_cons_of_mem _ hx)) (hf m l p (hp p (List.mem_cons_self ..)) h)
theorem nil_sm : smS [] := fun s h => by cases h
theorem way_sm (ns : List (List Int)) {n : Nat} {f : PF} (hf : Sm n f) : Sm (n + 1) (wayM ns f) := by
  intro m l p hp hl
  obtain ⟨h1, h2, h3, h4⟩ := hp
  unfold wayM
  split
  · unfold callS
    split
    · exact put_sm hl (by simp)
    · exact put_sm hl (by simp)
  · split
    · exact text_sm _ _ hl
    · split
      · exact put_sm hl h2
      · split
        · exact put_sm hl h2
        · split
          · exact seq_sm hf _ _ _ h4 hl
          · unfold anewM
            split
            · exact hl
            · exact put_sm hl (by simp)
theorem part_sm (ns : List (List Int)) : ∀ (n : Nat) (d : Int), Sm n (partM ns n d) := by
  intro n
  induction n with
  | zero => intro d m l p _ h; exact h
  | succ n ih =>
    intro d m l p hp h
    unfold partM
    split
    · exact h
    · exact way_sm ns (ih (d + 1)) _ l p hp h
theorem only_sm (ns : List (List Int)) (n : Nat) (d : Int) (p : PT) (m : Mk) (h : smP (n + 1) p) : smS (onlyM (partM ns n d) p m).2 := by
  unfold onlyM
  split
  · rename_i x e
    exact part_sm ns n d m [] x (h.2.2.2 x (by rw [e]; simp)) nil_sm
  · exact nil_sm
end Go.Proofs.YtamefbpdnblbdaaGreatDoor.F

namespace Go.Proofs.YtamefbpdnblbdaaGreatDoor.F
open Go.RowKit Go.Proofs.YtamefbpdnblbdaaGreatDoor.T Go.Proofs.YtamefbpdnblbdaaGreatDoor.R
set_option linter.unusedVariables false
set_option linter.unusedSimpArgs false

theorem prod_info : (Tryz.prog.info? 39).map (fun i => (i.zero, i.size, i.bytes)) = some (some (.agg #[.slice none 0 0, .int .i64 0, .slice none 0 0]), 3, 56) := by kernel_rfl
theorem new_prod (w : World) (n : Nat) (x0 x1 x2 : Value) (hn : n = w.heap.size) : ∀ (j : Nat) (u : Value), [x0, x1, x2][j]? = some u → (w.alloc (.cells #[x0, x1, x2] 39)).cell? ((⟨n, 0, none⟩ : Addr).add j) = some u := by
  subst hn
  exact World.news_of_block (cs := #[x0, x1, x2]) (t := 39) (fr := (0, 0)) (heap_alloc_new w _)
theorem AltV.none (D : Nat → Prop) (w : World) : AltV D w (.slice none 0 0) [] := ⟨_, 0, [], rfl, ⟨Nat.le_refl _, Nat.zero_le _, .inl rfl⟩, rfl⟩
theorem NotV.none (w : World) : NotV w (.slice none 0 0) [] := ⟨_, 0, rfl, Rs.nil w, Ty.nil w⟩
theorem MakV.grow {D : Nat → Prop} {w W X : World} {B b m : Nat} {ns : List (List Int)} {d : Int} {v : Value} {s : Mk} (h : MakV D w B b m ns d v s) (k : Below w.heap.size w W) (h60 : s.made.length < 60) {cs : List Value} (hp : PrC D w s.made cs) {p : PRD} {c0 c2 : Value} (ha : AltV D W c0 p.1) (hn : NotV W c2 p.2.2) {gg cap : Nat}
    (own : X.ownsRow B 39 3 (.slice (some ⟨gg, 0, none⟩) (s.made.length + 1) cap) (s.made.length + 1) (cs ++ [c0, .int .i64 p.2.1, c2])) (hg : W.grownBy X v.ownBlock) (hgg : v.ownBlock = some gg ∨ gg = W.heap.size) :
    MakV D (X.setCell ⟨b, 0, none⟩ (.slice (some ⟨gg, 0, none⟩) (s.made.length + 1) cap)) B b m ns d (.slice (some ⟨gg, 0, none⟩) (s.made.length + 1) cap) ⟨s.made ++ [p], s.left, s.pl, s.why⟩ ∧ Fl B b none w (X.setCell ⟨b, 0, none⟩ (.slice (some ⟨gg, 0, none⟩) (s.made.length + 1) cap)) := by
  have hW := h.later k
  have f1 : Fl B b none W X := Fl.grownP hg (fun k hk => hW.made.block k hk)
  have f2 : Fl B b none w X := (Fl.of k).then f1 (fun g e => by cases e)
  have hbX : X.heap[b]? = some (.cells (mkCells v m b d s) 77) := by
    rw [hg.block b hW.lt (fun e => hW.made_ne b e.symm rfl)]; exact hW.cells
  have kX : KR W X := f1.kr hW.cells (no_x _)
  have hc := heap_setCell_same X b 0 _ _ (.slice (some ⟨gg, 0, none⟩) (s.made.length + 1) cap) hbX
  have f3 : Fl B b none w (X.setCell ⟨b, 0, none⟩ (.slice (some ⟨gg, 0, none⟩) (s.made.length + 1) cap)) := f2.then (Fl.set (x := none) X h.hB 0 _) (fun g e => by cases e)
  have kp : Kp D D w (X.setCell ⟨b, 0, none⟩ (.slice (some ⟨gg, 0, none⟩) (s.made.length + 1) cap)) := f3.kp h.cells (no_x w) (no_d w)
  have kpW : Kp D D W (X.setCell ⟨b, 0, none⟩ (.slice (some ⟨gg, 0, none⟩) (s.made.length + 1) cap)) := (f1.then (Fl.set (x := none) X h.hB 0 _) (fun g e => by cases e)).kp hW.cells (no_x _) (no_d _)
  have hgb : gg ≠ b := by
    intro e
    rcases hgg with c | c
    · exact hW.made_ne gg c e
    · have := hW.lt; omega
  refine ⟨⟨h.hB, h.hm, h.d0, h.l0, ?_, ⟨by simp; omega, cs ++ [c0, .int .i64 p.2.1, c2], ?_, ?_⟩, h.names.keep (fun o ho hno => ?_)⟩, f3⟩
  · rw [hc]; simp [mkCells]
  · rw [List.length_append]
    refine own_keep own (fun g o hg ho => ?_)
    simp only [Value.ownBlock, Option.some.injEq] at hg
    subst hg
    exact other_at ho hgb _
  · exact PrC.snoc (ha.kp kpW) (hn.kr kpW.1) _ _ (PrC.kp kp _ _ hp)
  · refine f3.block m o ho (fun c => ?_) (by simp) (fun cs' fr => hno _ _ _)
    subst c; rw [h.cells] at ho; injection ho with ho; exact hno _ _ _ ho.symm
theorem anew_full {f : PF} {m : Mk} {l : List SY} {p : PT} (h : m.made.length = 60) : anewM f m l p = (m.stop (atP p) 7, l) := by unfold anewM; rw [if_pos h]
theorem anew_on {f : PF} {m : Mk} {l : List SY} {p : PT} (h : m.made.length ≠ 60) : anewM f m l p = (((altsM f p m.made.length ⟨m.made ++ [([], 0, [])], m.left, m.pl, m.why⟩).1).fin m.made.length (atP p) (altsM f p m.made.length ⟨m.made ++ [([], 0, [])], m.left, m.pl, m.why⟩).2, putS l (2, [], (m.made.length : Int))) := by unfold anewM; rw [if_neg h]
theorem LV.dv {D : Nat → Prop} {w : World} {B : Nat} {v : Value} {l : List SY} (h : LV w B v l) (hD : ∀ k, w.heap.size ≤ k → D k) : ∀ k, w.heap.size ≤ k → D k ∧ some k ≠ v.ownBlock := fun k hk => ⟨hD k hk, fun e => by
  have := (h.lt k e.symm).2; omega⟩
theorem enter_of {f : FuncId} {fn : Func} {c : Code} (hf : Tryz.prog.funcs[f]? = some fn) (hname : (fn.name == "runtime.NumGoroutine") = false) (hb : fn.body = some c) (args : Array Value) (w : World) : (callFunc f args).run Tryz.prog w = .ok (.enter f args) w := by
  have h1 : fn.name ≠ "runtime.NumGoroutine" := by simpa using hname
  simp [callFunc, hf, h1, hb]
set_option maxRecDepth 20000 in
set_option maxHeartbeats 8000000 in
theorem fanew_l {ns : List (List Int)} {n : Nat} {d : Int} (F : Nat) (HE : ∀ args W, (callFunc F args).run Tryz.prog W = .ok (.enter F args) W) {AG : PT → Nat → Mk → Mk × List (List SY)} (HA : AtC ns n d F AG) {D : Nat → Prop} {w : World} {B b m : Nat} {s : Mk} {v : Value} {l : List SY} (pv : Value) (p : PT) (hB : B ≤ w.heap.size) (hD : ∀ k, w.heap.size ≤ k → D k) (h : Mak (fun k => D k ∧ some k ≠ v.ownBlock) w B b m ns d s) (hL : LV w B v l) (hp : PartB B (n + 1) w pv p) (hs : smP (n + 1) p) (hG : ∀ nn s, AG p nn s = altsM (partM ns n d) p nn s) :
    Calls Tryz.prog 101 #[.pointer (some ⟨b, 0, none⟩), v, pv, .func (.func F) #[.pointer (some ⟨b, 0, none⟩)] #[]] w (LfR D B b m ns d v w (anewM (partM ns n d) s l p)) := by
  obtain ⟨mv, hm⟩ := h
  have B1 : ∀ o, Below w.heap.size w (w.alloc o) := fun o => Below.new1 o
  have h60 := hm.made.1
  obtain ⟨ma, mc, rfl⟩ := hm.made.form
  have hlt := hm.lt
  have MB := hideR hm.blk
  have HM := hideR hm
  have HL := hideR hL
  have HDV := hideR (hL.dv hD)
  have HP := hideR hp
  have HSP := hideR hs
  have HBB := hideR hB
  have CC0 : ∀ o, (w.alloc o).cell? ⟨b, 0, none⟩ = some (.slice ma s.made.length mc) := fun o => (mcells (hm.later (B1 o)).cells).1
  have CS := hideR (fun W (bW : Below w.heap.size w W) q => fstop_l (hm.later bW) q 7)
  obtain ⟨k, S, a1, n1, c1, a2, n2, c2, q, rfl, hk, hq⟩ := part_form hp
  obtain ⟨la, lc, rfl⟩ := hL.form
  by_cases hf : s.made.length = 60
  · have FIN : Hid (anewM (partM ns n d) s l p = (s.stop q 7, l)) := by show _ = _; rw [hq]; exact anew_full hf
    have hbb : ((s.made.length : Int) == 60) = true := by rw [hf]; rfl
    clear hm hL hp hs hD hf h60 hk hq
    generalize s.made.length = nm at *
    go_enter Tryz.func101, Tryz.ntmps101
    go_wp2_with fail
    refine (unhideR CS _ (B1 _) _).mono ?_
    rintro e w2 ⟨rfl, hm2, f2⟩
    have FW : Fl B b none w w2 := (Fl.of (B1 _)).then f2 (fun g e => by cases e)
    have HFW := hideR FW
    have HM2 := hideR hm2
    clear CS hm2 f2 FW
    go_wp2_with fail
    go_ret
    rw [unhideR FIN]
    obtain ⟨bc, bf, hb⟩ := unhideR MB
    exact ⟨_, rfl, (unhideR HL).fl (unhideR HFW) hb (no_x _) (fun g _ e => by cases e), ⟨_, unhideR HM2⟩, (unhideR HFW).none, Nx.refl _ _⟩
  · have hbb : ((s.made.length : Int) == 60) = false := by rw [beq_eq_false_iff_ne]; omega
    have FIN : Hid (anewM (partM ns n d) s l p = (((altsM (partM ns n d) p s.made.length ⟨s.made ++ [([], 0, [])], s.left, s.pl, s.why⟩).1).fin s.made.length q (altsM (partM ns n d) p s.made.length ⟨s.made ++ [([], 0, [])], s.left, s.pl, s.why⟩).2, putS l (2, [], (s.made.length : Int)))) := by show _ = _; rw [hq]; exact anew_on hf
    have h59 : s.made.length < 60 := by omega
    obtain ⟨-, cs, HO, hpr⟩ := id hm.made
    have HPR := hideR hpr
    obtain ⟨ti, hi0, hz0, hz1, hz2⟩ := info_parts prod_info
    have MON := hideR (alts_mono (part_mono ns n d) p s.made.length ⟨s.made ++ [([], 0, [])], s.left, s.pl, s.why⟩).1
    have HAA := hideR HA
    clear hm hL hp hs hD hf h60 hk hq CS HA hpr
    have BX : ∀ o1 o2, Below w.heap.size w ((w.alloc o1).alloc o2) := fun o1 o2 => (B1 o1).alloc (by simp) o2
    go_enter Tryz.func101, Tryz.ntmps101
    go_wp2_with (at_builtin; refine wpList_append_lies _ rfl _ _ 30 rfl B 39 ti _ 3 56 Tryz.underlying30 hi0 hz0 hz1 hz2 rfl (by omega) _ _ _ rfl ((HO.alloc _).alloc _) ⟨w.heap.size + 1, 0, none⟩ 1 1 [.slice none 0 0, .int .i64 0, .slice none 0 0] rfl rfl (new_prod _ _ _ _ _ (by simp)) (by simp [Value.oneCell']) (by omega) (by unfold maxLen; omega) (by omega) (by simp; omega) (w.heap.size + 2) (by simp) ?_; intro gg cap1 w6 hown1 hgrow hat hlt1; have hb6 : w6.heap[b]? = some (.cells (mkCells (.slice ma s.made.length mc) m b d s) 77) := (hgrow.block b (by simp <;> omega) (fun e => (unhideR HM).made_ne b e.symm rfl)).trans (old_at (old_at (unhideR HM).cells _) _); obtain ⟨u0, -, -, -, -, -, z0, -, -, -, -⟩ := mcells hb6; have s6 := hgrow.size; have hb6l : b < w6.heap.size := (Array.getElem?_eq_some_iff.1 hb6).1; have P0 : w6.heap[w.heap.size]? = some (.cells #[.int .i64 k, .string S, .slice a1 n1 c1, .slice a2 n2 c2, .int .i64 q] 42) := (hgrow.block _ (by simp <;> omega) (fun e => by have := (HO.lt _ e.symm).2; omega)).trans (old_at (heap_alloc_new w _) _); have MG := hideR ((unhideR HM).grow (BX (.cells #[.int .i64 k, .string S, .slice a1 n1 c1, .slice a2 n2 c2, .int .i64 q] 42) (.cells #[.slice none 0 0, .int .i64 0, .slice none 0 0] 39)) h59 (unhideR HPR) (p := ([], 0, [])) (AltV.none _ _) (NotV.none _) hown1 hgrow (by rcases hat with h | h; exact .inl h; exact .inr (by simp [h]))); have s6' : w.heap.size + 2 ≤ w6.heap.size := (by rw [World.size_alloc, World.size_alloc] at s6; exact s6); clear hb6 hown1 hgrow hat HO BX)
    -- the region that draws
    obtain ⟨mg, fg⟩ := unhideR MG
    have P0 : ((w6.setCell ⟨b, 0, none⟩ (.slice (some ⟨gg, 0, none⟩) (s.made.length + 1) cap1)).alloc (.cells #[.int .i64 2, .slice none 0 0, .int .i64 (s.made.length : Int)] 56)).heap[w.heap.size]? = some (.cells #[.int .i64 k, .string S, .slice a1 n1 c1, .slice a2 n2 c2, .int .i64 q] 42) := old_at (other_at P0 (by omega) _) _
    have P1 : ((w6.setCell ⟨b, 0, none⟩ (.slice (some ⟨gg, 0, none⟩) (s.made.length + 1) cap1)).alloc (.cells #[.int .i64 2, .slice none 0 0, .int .i64 (s.made.length : Int)] 56)).heap[w6.heap.size]? = some (.cells #[.int .i64 2, .slice none 0 0, .int .i64 (s.made.length : Int)] 56) := by have := heap_alloc_new (w6.setCell ⟨b, 0, none⟩ (.slice (some ⟨gg, 0, none⟩) (s.made.length + 1) cap1)) (.cells #[.int .i64 2, .slice none 0 0, .int .i64 (s.made.length : Int)] 56); simpa using this
    have sW : ((w6.setCell ⟨b, 0, none⟩ (.slice (some ⟨gg, 0, none⟩) (s.made.length + 1) cap1)).alloc (.cells #[.int .i64 2, .slice none 0 0, .int .i64 (s.made.length : Int)] 56)).heap.size = w6.heap.size + 1 := by simp
    have MW := mg.later (Below.new1 (.cells #[.int .i64 2, .slice none 0 0, .int .i64 (s.made.length : Int)] 56))
    have FW := fg.then (Fl.of (x := none) (Below.new1 (.cells #[.int .i64 2, .slice none 0 0, .int .i64 (s.made.length : Int)] 56))) (fun g e => by cases e)
    clear MG mg fg u0 z0
    generalize ((w6.setCell ⟨b, 0, none⟩ (.slice (some ⟨gg, 0, none⟩) (s.made.length + 1) cap1)).alloc (.cells #[.int .i64 2, .slice none 0 0, .int .i64 (s.made.length : Int)] 56)) = WW at *
    obtain ⟨bc, bf, hb⟩ := unhideR MB
    have LW := hideR ((unhideR HL).fl FW hb (no_x _) (fun g _ e => by cases e))
    have PW := hideR (PartB.fl FW hb (no_x _) (unhideR HBB) (unhideR HP))
    have CA := hideR (fun W (bW : Below WW.heap.size WW W) => unhideR HAA _ W B b m _ _ p s.made.length (Nat.le_trans (unhideR HBB) (Nat.le_trans FW.size bW.size)) (fun k hk => unhideR HDV k (Nat.le_trans FW.size (Nat.le_trans bW.size hk))) ⟨_, MW.later bW⟩ (PartB.kept (fun g hg => ⟨hg, bW.block g (Nat.lt_of_lt_of_le hg (Nat.le_trans (unhideR HBB) FW.size))⟩) (KR.of bW) (n + 1) _ p (unhideR PW)) (unhideR HSP))
    rw [hG] at CA
    generalize hr : altsM (partM ns n d) p s.made.length ⟨s.made ++ [([], 0, [])], s.left, s.pl, s.why⟩ = r at *
    have hn8 : s.made.length < r.1.made.length := by have := unhideR MON; simp at this; omega
    have HFW := hideR FW
    have HMW := hideR MW.cells
    clear MW FW hr MON HAA
    refine wp_region_held_drew (S := (fun w' => w'.heap[w.heap.size]? = some (.cells #[.int .i64 k, .string S, .slice a1 n1 c1, .slice a2 n2 c2, .int .i64 q] 42) ∧ w'.heap[w6.heap.size]? = some (.cells #[.int .i64 2, .slice none 0 0, .int .i64 (s.made.length : Int)] 56))) (by kernel_rfl) (⟨P0, P1⟩) (fun hHeld => ?_)
    refine wpAnyH_take (i := 0) (v := ?_) rfl (by kernel_rfl) (by kernel_rfl) (by kernel_rfl) (fun _ _ _ h => h) (Or.inl ⟨by kernel_rfl, ?_⟩) (by assumption) ?_
    rotate_left
    · intro w hSw; obtain ⟨⟨y0, y1, y2, y3, y4⟩, -⟩ := cells5 hSw.1; obtain ⟨⟨x0, x1, x2⟩, -⟩ := cells3 hSw.2; (try clear hSw); go_simp; (try with_reducible rfl)
    try simp only [Act.put, List.getElem_toArray, List.getElem_cons_succ, List.getElem_cons_zero, List.setIfInBounds_toArray, List.set_cons_zero, List.set_cons_succ]
    refine wpAnyH_take (i := 1) (v := ?_) rfl (by kernel_rfl) (by kernel_rfl) (by kernel_rfl) (fun _ _ _ h => h) (Or.inl ⟨by kernel_rfl, ?_⟩) (by assumption) ?_
    rotate_left
    · intro w hSw; obtain ⟨⟨y0, y1, y2, y3, y4⟩, -⟩ := cells5 hSw.1; obtain ⟨⟨x0, x1, x2⟩, -⟩ := cells3 hSw.2; (try clear hSw); go_simp; (try with_reducible rfl)
    try simp only [Act.put, List.getElem_toArray, List.getElem_cons_succ, List.getElem_cons_zero, List.setIfInBounds_toArray, List.set_cons_zero, List.set_cons_succ]
    refine wpAnyH_take (i := 2) (v := ?_) rfl (by kernel_rfl) (by kernel_rfl) (by kernel_rfl) (fun _ _ _ h => h) (Or.inl ⟨by kernel_rfl, ?_⟩) (by assumption) ?_
    rotate_left
    · intro w hSw; obtain ⟨⟨y0, y1, y2, y3, y4⟩, -⟩ := cells5 hSw.1; obtain ⟨⟨x0, x1, x2⟩, -⟩ := cells3 hSw.2; (try clear hSw); go_simp; (try with_reducible rfl)
    try simp only [Act.put, List.getElem_toArray, List.getElem_cons_succ, List.getElem_cons_zero, List.setIfInBounds_toArray, List.set_cons_zero, List.set_cons_succ]
    refine wpAnyH_take (i := 3) (v := ?_) rfl (by kernel_rfl) (by kernel_rfl) (by kernel_rfl) (fun _ _ _ h => h) (Or.inl ⟨by kernel_rfl, ?_⟩) (by assumption) ?_
    rotate_left
    · intro w hSw; obtain ⟨⟨y0, y1, y2, y3, y4⟩, -⟩ := cells5 hSw.1; obtain ⟨⟨x0, x1, x2⟩, -⟩ := cells3 hSw.2; (try clear hSw); go_simp; (try with_reducible rfl)
    try simp only [Act.put, List.getElem_toArray, List.getElem_cons_succ, List.getElem_cons_zero, List.setIfInBounds_toArray, List.set_cons_zero, List.set_cons_succ]
    refine wpAnyH_take (i := 4) (v := ?_) rfl (by kernel_rfl) (by kernel_rfl) (by kernel_rfl) (fun _ _ _ h => h) (Or.inl ⟨by kernel_rfl, ?_⟩) (by assumption) ?_
    rotate_left
    · intro w hSw; obtain ⟨⟨y0, y1, y2, y3, y4⟩, -⟩ := cells5 hSw.1; obtain ⟨⟨x0, x1, x2⟩, -⟩ := cells3 hSw.2; (try clear hSw); go_simp; (try with_reducible rfl)
    try simp only [Act.put, List.getElem_toArray, List.getElem_cons_succ, List.getElem_cons_zero, List.setIfInBounds_toArray, List.set_cons_zero, List.set_cons_succ]
    refine wpAnyH_take (i := 5) (v := ?_) rfl (by kernel_rfl) (by kernel_rfl) (by kernel_rfl) (fun _ _ _ h => h) (Or.inl ⟨by kernel_rfl, ?_⟩) (by assumption) ?_
    rotate_left
    · intro w hSw; obtain ⟨⟨y0, y1, y2, y3, y4⟩, -⟩ := cells5 hSw.1; obtain ⟨⟨x0, x1, x2⟩, -⟩ := cells3 hSw.2; (try clear hSw); go_simp; (try with_reducible rfl)
    try simp only [Act.put, List.getElem_toArray, List.getElem_cons_succ, List.getElem_cons_zero, List.setIfInBounds_toArray, List.set_cons_zero, List.set_cons_succ]
    refine wpAnyH_ready (rs := [6]) (by kernel_rfl) (by simp) ?_
    refine AllReadyH.cons rfl (fun K hK => ?_) AllReadyH.nil
    go_simp
    refine (unhideR CA _ draws_b).mono ?_
    clear CA
    rintro e w8 ⟨av, rfl, alt8, ⟨mv8, mk8⟩, fl8, l9⟩
    have fl8 : Fl B b none WW w8 := (Fl.of (x := none) (draws_b (k := 1) (w := WW))).then fl8 (fun g e => by cases e)
    have P0 : w8.heap[w.heap.size]? = some (.cells #[.int .i64 k, .string S, .slice a1 n1 c1, .slice a2 n2 c2, .int .i64 q] 42) := fl8.block _ _ P0 (by omega) (by simp) (fun cs fr e => by injection e with _ e; exact absurd e (by decide))
    have P1 : w8.heap[w6.heap.size]? = some (.cells #[.int .i64 2, .slice none 0 0, .int .i64 (s.made.length : Int)] 56) := fl8.block _ _ P1 (by omega) (by simp) (fun cs fr e => by injection e with _ e; exact absurd e (by decide))
    have CF := hideR (ffin_l mk8 s.made.length hn8 k S a1 n1 c1 a2 n2 c2 q av r.2 alt8 (Nat.le_trans l9 (by omega)))
    have HF8 := hideR ((unhideR HFW).then fl8 (fun g e => by cases e))
    obtain ⟨va1, va2, rfl, -, -⟩ := alt8.form
    have h8 := mk8.lt
    have HB8 := hideR mk8.blk
    clear alt8 mk8 fl8 l9 hn8 HMW
    go_wp2_with fail
    refine hK.out _ _ (⟨P0, P1⟩) (fun hHeld => ?_)
    clear hK K
    try simp only [Act.put, List.getElem_toArray, List.getElem_cons_succ, List.getElem_cons_zero, List.setIfInBounds_toArray, List.set_cons_zero, List.set_cons_succ]
    refine wpAnyH_ready (rs := [7]) (by kernel_rfl) (by simp) ?_
    refine AllReadyH.cons rfl (fun K hK => ?_) AllReadyH.nil
    go_simp
    refine (unhideR CF).mono ?_
    clear CF
    rintro e w9 ⟨rfl, mk9, fl9⟩
    have P0 : w9.heap[w.heap.size]? = some (.cells #[.int .i64 k, .string S, .slice a1 n1 c1, .slice a2 n2 c2, .int .i64 q] 42) := fl9.block _ _ P0 (by omega) (by simp) (fun cs fr e => by injection e with _ e; exact absurd e (by decide))
    have P1 : w9.heap[w6.heap.size]? = some (.cells #[.int .i64 2, .slice none 0 0, .int .i64 (s.made.length : Int)] 56) := fl9.block _ _ P1 (by omega) (by simp) (fun cs fr e => by injection e with _ e; exact absurd e (by decide))
    have HF9 := hideR ((unhideR HF8).then fl9 (fun g e => by cases e))
    have L9 := (unhideR HL).fl (unhideR HF9) hb (no_x _) (fun g _ e => by cases e)
    have CP := hideR (fput_l L9 (Nat.le_trans (unhideR HBB) (unhideR HF9).size) 2 (s.made.length : Int) [] none 0 (Rs.nil w9) (Ty.nil w9))
    simp only [List.length_nil] at CP
    have HM9 := hideR mk9
    clear mk9 fl9 L9 HF8 LW PW
    go_wp2_with fail
    refine hK.out _ _ (⟨P0, P1⟩) (fun hHeld => ?_)
    clear hK K
    try simp only [Act.put, List.getElem_toArray, List.getElem_cons_succ, List.getElem_cons_zero, List.setIfInBounds_toArray, List.set_cons_zero, List.set_cons_succ]
    refine wpAnyH_done (by kernel_rfl) ?_ _
    obtain ⟨⟨x0, x1, x2⟩, -⟩ := cells3 P1
    clear P0 P1 HB8 hHeld
    go_wp2_with fail
    refine (unhideR CP).mono ?_
    clear CP
    rintro e w10 ⟨v10, rfl, lv10, gr10, nx10, kr10⟩
    obtain ⟨ya, yc, rfl⟩ := lv10.form
    go_wp2_with fail
    go_ret
    rw [unhideR FIN]
    exact put_end (unhideR HL) (unhideR MB) (unhideR HM9) (unhideR HF9) lv10 gr10 nx10
end Go.Proofs.YtamefbpdnblbdaaGreatDoor.F

namespace Go.Proofs.YtamefbpdnblbdaaGreatDoor.F
open Go.RowKit Go.Proofs.YtamefbpdnblbdaaGreatDoor.T Go.Proofs.YtamefbpdnblbdaaGreatDoor.R
set_option linter.unusedVariables false
set_option linter.unusedSimpArgs false

theorem MakV.deep {D : Nat → Prop} {w : World} {B b m : Nat} {ns : List (List Int)} {d : Int} {v : Value} {s : Mk} (h : MakV D w B b m ns d v s) (d' : Int) (hd : 0 ≤ d' ∧ d' ≤ 131072) : MakV D (w.setCell ⟨b, 11, none⟩ (.int .i64 d')) B b m ns d' v s ∧ Fl B b none w (w.setCell ⟨b, 11, none⟩ (.int .i64 d')) := by
  have fl : Fl B b none w (w.setCell ⟨b, 11, none⟩ (.int .i64 d')) := Fl.set (x := none) w h.hB 11 _
  refine ⟨h.re (x := none) fl (no_x w) (no_d w) ?_ (fun g o hg ho => other_at ho (h.made_ne g hg) _) rfl hd h.l0, fl⟩
  have h1 := heap_setCell_same w b 11 _ _ (.int .i64 d') h.cells
  rw [h1]
  simp [mkCells]
theorem MakV.less {D : Nat → Prop} {w : World} {B b m : Nat} {ns : List (List Int)} {d : Int} {v : Value} {s : Mk} (h : MakV D w B b m ns d v s) (y : Int) (hy : 0 ≤ y ∧ y ≤ 2147483647) : MakV D (w.setCell ⟨b, 12, none⟩ (.int .i64 y)) B b m ns d v ⟨s.made, y, s.pl, s.why⟩ ∧ Fl B b none w (w.setCell ⟨b, 12, none⟩ (.int .i64 y)) := by
  have fl : Fl B b none w (w.setCell ⟨b, 12, none⟩ (.int .i64 y)) := Fl.set (x := none) w h.hB 12 _
  refine ⟨h.re (x := none) fl (no_x w) (no_d w) ?_ (fun g o hg ho => other_at ho (h.made_ne g hg) _) rfl h.d0 hy, fl⟩
  have h1 := heap_setCell_same w b 12 _ _ (.int .i64 y) h.cells
  rw [h1]
  simp [mkCells]
def wayF : Nat → Nat
  | 0 => 51
  | 1 => 52
  | 2 => 53
  | 3 => 54
  | 4 => 55
  | 5 => 56
  | 6 => 57
  | 7 => 58
  | _ => 59
theorem mk_way {W : World} {v : Value} {m b : Nat} {d : Int} {s : Mk} (h : W.heap[b]? = some (.cells (mkCells v m b d s) 77)) (k : Nat) (hk : k ≤ 8) : W.cell? ⟨b, 2 + k, none⟩ = some (wayV (wayF k) b) := by
  unfold mkCells at h
  have : k = 0 ∨ k = 1 ∨ k = 2 ∨ k = 3 ∨ k = 4 ∨ k = 5 ∨ k = 6 ∨ k = 7 ∨ k = 8 := by omega
  rcases this with rfl | rfl | rfl | rfl | rfl | rfl | rfl | rfl | rfl <;> simp [World.cell?, h, wayF]
def WyC (ns : List (List Int)) (n : Nat) (d : Int) (f : Nat) (kk : Int) : Prop :=
  ∀ (D : Nat → Prop) (w : World) (B b m : Nat) (s : Mk) (v : Value) (l : List SY) (pv : Value) (p : PT), B ≤ w.heap.size → (∀ k, w.heap.size ≤ k → D k) → Mak (fun k => D k ∧ some k ≠ v.ownBlock) w B b m ns d s → LV w B v l → PartB B (n + 1) w pv p → smP (n + 1) p → kdP p = kk →
    Calls Tryz.prog f #[.pointer (some ⟨b, 0, none⟩), v, pv] w (LfR D B b m ns d v w (wayM ns (partM ns n d) s l p))
theorem LfR.mono_w {D : Nat → Prop} {B b m : Nat} {ns : List (List Int)} {d : Int} {v : Value} {w W : World} {r : Mk × List SY} {e : Ending} {w' : World} (h : LfR D B b m ns d v W r e w') (f : Fl B b none w W) : LfR D B b m ns d v w r e w' := by
  obtain ⟨v', e1, k1, k2, k3, k4⟩ := h
  refine ⟨v', e1, k1, k2, f.none.then k3 (fun g hg => .inl hg), fun g hg => ?_⟩
  rcases k4 g hg with c | c
  · exact .inl c
  · exact .inr (Nat.le_trans f.size c)
set_option maxRecDepth 20000 in
set_option maxHeartbeats 1000000 in
theorem way_5 {ns : List (List Int)} {n : Nat} {d : Int} (HP : PartC ns n d) : WyC ns n d (wayF 5) 5 := by
  intro D w B b m s v l pv p hB hD h hL hp hs hk
  have e : wayM ns (partM ns n d) s l p = anewM (partM ns n d) s l p := by unfold wayM; rw [hk]; rfl
  rw [e]
  have B1 : ∀ o, Below w.heap.size w (w.alloc o) := fun o => Below.new1 o
  have CA := hideR (fun W (bW : Below w.heap.size w W) => fanew_l (D := D) (w := W) 102 (enter_of Tryz.func102 rfl rfl) (AG := fun p nn s => eachM (partM ns n d) (psP p) s []) (fun D w B b m s pv p nn hB hD h hp hs => feach_l HP pv p _ _ _ _ _ hB hD h hp hs) (l := l) pv p (by have := bW.size; omega) (fun k hk => hD k (by have := bW.size; omega)) (by obtain ⟨mv, hm⟩ := h; exact ⟨mv, hm.later bW⟩) (hL.later bW) (PartB.kept (fun g hg => ⟨hg, bW.block g (by omega)⟩) (KR.of bW) (n + 1) _ p hp) hs (fun nn s => by unfold altsM; rw [hk]; rfl))
  obtain ⟨k, S, a1, n1, c1, a2, n2, c2, q, rfl, -, -⟩ := part_form hp
  obtain ⟨la, lc, rfl⟩ := hL.form
  have hlt : b < w.heap.size := by obtain ⟨mv, hm⟩ := h; exact hm.lt
  clear hp hs hD hB h hL hk e
  show Calls Tryz.prog 56 _ _ _
  generalize anewM (partM ns n d) s l p = r at *
  have hmf : ∀ (fn : Fn) (first cap : Array Value) (w : World), (Instr.makeFunc fn first cap).run Tryz.prog w = .ok (.func fn first cap) w := fun _ _ _ _ => rfl
  go_enter Tryz.func56, Tryz.ntmps56
  go_wp2_with fail
  refine (unhideR CA _ (B1 _)).mono ?_
  clear CA
  rintro e w2 lf
  obtain ⟨v2, rfl, lv2, -⟩ := id lf
  obtain ⟨ya, yc, rfl⟩ := lv2.form
  have HLF := hideR lf
  clear lf lv2
  go_wp2_with fail
  go_ret
  exact (unhideR HLF).mono_w (Fl.of (B1 _))
set_option maxRecDepth 20000 in
set_option maxHeartbeats 1000000 in
theorem way_6 {ns : List (List Int)} {n : Nat} {d : Int} (HP : PartC ns n d) : WyC ns n d (wayF 6) 6 := by
  intro D w B b m s v l pv p hB hD h hL hp hs hk
  have e : wayM ns (partM ns n d) s l p = anewM (partM ns n d) s l p := by unfold wayM; rw [hk]; rfl
  rw [e]
  have B1 : ∀ o, Below w.heap.size w (w.alloc o) := fun o => Below.new1 o
  have CA := hideR (fun W (bW : Below w.heap.size w W) => fanew_l (D := D) (w := W) 103 (enter_of Tryz.func103 rfl rfl) (fstar_l HP) (l := l) pv p (by have := bW.size; omega) (fun k hk => hD k (by have := bW.size; omega)) (by obtain ⟨mv, hm⟩ := h; exact ⟨mv, hm.later bW⟩) (hL.later bW) (PartB.kept (fun g hg => ⟨hg, bW.block g (by omega)⟩) (KR.of bW) (n + 1) _ p hp) hs (fun nn s => by unfold altsM; rw [hk]; rfl))
  obtain ⟨k, S, a1, n1, c1, a2, n2, c2, q, rfl, -, -⟩ := part_form hp
  obtain ⟨la, lc, rfl⟩ := hL.form
  have hlt : b < w.heap.size := by obtain ⟨mv, hm⟩ := h; exact hm.lt
  clear hp hs hD hB h hL hk e
  show Calls Tryz.prog 57 _ _ _
  generalize anewM (partM ns n d) s l p = r at *
  have hmf : ∀ (fn : Fn) (first cap : Array Value) (w : World), (Instr.makeFunc fn first cap).run Tryz.prog w = .ok (.func fn first cap) w := fun _ _ _ _ => rfl
  go_enter Tryz.func57, Tryz.ntmps57
  go_wp2_with fail
  refine (unhideR CA _ (B1 _)).mono ?_
  clear CA
  rintro e w2 lf
  obtain ⟨v2, rfl, lv2, -⟩ := id lf
  obtain ⟨ya, yc, rfl⟩ := lv2.form
  have HLF := hideR lf
  clear lf lv2
  go_wp2_with fail
  go_ret
  exact (unhideR HLF).mono_w (Fl.of (B1 _))
set_option maxRecDepth 20000 in
set_option maxHeartbeats 1000000 in
theorem way_7 {ns : List (List Int)} {n : Nat} {d : Int} (HP : PartC ns n d) : WyC ns n d (wayF 7) 7 := by
  intro D w B b m s v l pv p hB hD h hL hp hs hk
  have e : wayM ns (partM ns n d) s l p = anewM (partM ns n d) s l p := by unfold wayM; rw [hk]; rfl
  rw [e]
  have B1 : ∀ o, Below w.heap.size w (w.alloc o) := fun o => Below.new1 o
  have CA := hideR (fun W (bW : Below w.heap.size w W) => fanew_l (D := D) (w := W) 104 (enter_of Tryz.func104 rfl rfl) (fplus_l HP (fun p s hs => only_sm ns n d p s hs)) (l := l) pv p (by have := bW.size; omega) (fun k hk => hD k (by have := bW.size; omega)) (by obtain ⟨mv, hm⟩ := h; exact ⟨mv, hm.later bW⟩) (hL.later bW) (PartB.kept (fun g hg => ⟨hg, bW.block g (by omega)⟩) (KR.of bW) (n + 1) _ p hp) hs (fun nn s => by unfold altsM; rw [hk]; rfl))
  obtain ⟨k, S, a1, n1, c1, a2, n2, c2, q, rfl, -, -⟩ := part_form hp
  obtain ⟨la, lc, rfl⟩ := hL.form
  have hlt : b < w.heap.size := by obtain ⟨mv, hm⟩ := h; exact hm.lt
  clear hp hs hD hB h hL hk e
  show Calls Tryz.prog 58 _ _ _
  generalize anewM (partM ns n d) s l p = r at *
  have hmf : ∀ (fn : Fn) (first cap : Array Value) (w : World), (Instr.makeFunc fn first cap).run Tryz.prog w = .ok (.func fn first cap) w := fun _ _ _ _ => rfl
  go_enter Tryz.func58, Tryz.ntmps58
  go_wp2_with fail
  refine (unhideR CA _ (B1 _)).mono ?_
  clear CA
  rintro e w2 lf
  obtain ⟨v2, rfl, lv2, -⟩ := id lf
  obtain ⟨ya, yc, rfl⟩ := lv2.form
  have HLF := hideR lf
  clear lf lv2
  go_wp2_with fail
  go_ret
  exact (unhideR HLF).mono_w (Fl.of (B1 _))
set_option maxRecDepth 20000 in
set_option maxHeartbeats 1000000 in
theorem way_8 {ns : List (List Int)} {n : Nat} {d : Int} (HP : PartC ns n d) : WyC ns n d (wayF 8) 8 := by
  intro D w B b m s v l pv p hB hD h hL hp hs hk
  have e : wayM ns (partM ns n d) s l p = anewM (partM ns n d) s l p := by unfold wayM; rw [hk]; rfl
  rw [e]
  have B1 : ∀ o, Below w.heap.size w (w.alloc o) := fun o => Below.new1 o
  have CA := hideR (fun W (bW : Below w.heap.size w W) => fanew_l (D := D) (w := W) 105 (enter_of Tryz.func105 rfl rfl) (fopt_l HP) (l := l) pv p (by have := bW.size; omega) (fun k hk => hD k (by have := bW.size; omega)) (by obtain ⟨mv, hm⟩ := h; exact ⟨mv, hm.later bW⟩) (hL.later bW) (PartB.kept (fun g hg => ⟨hg, bW.block g (by omega)⟩) (KR.of bW) (n + 1) _ p hp) hs (fun nn s => by unfold altsM; rw [hk]; rfl))
  obtain ⟨k, S, a1, n1, c1, a2, n2, c2, q, rfl, -, -⟩ := part_form hp
  obtain ⟨la, lc, rfl⟩ := hL.form
  have hlt : b < w.heap.size := by obtain ⟨mv, hm⟩ := h; exact hm.lt
  clear hp hs hD hB h hL hk e
  show Calls Tryz.prog 59 _ _ _
  generalize anewM (partM ns n d) s l p = r at *
  have hmf : ∀ (fn : Fn) (first cap : Array Value) (w : World), (Instr.makeFunc fn first cap).run Tryz.prog w = .ok (.func fn first cap) w := fun _ _ _ _ => rfl
  go_enter Tryz.func59, Tryz.ntmps59
  go_wp2_with fail
  refine (unhideR CA _ (B1 _)).mono ?_
  clear CA
  rintro e w2 lf
  obtain ⟨v2, rfl, lv2, -⟩ := id lf
  obtain ⟨ya, yc, rfl⟩ := lv2.form
  have HLF := hideR lf
  clear lf lv2
  go_wp2_with fail
  go_ret
  exact (unhideR HLF).mono_w (Fl.of (B1 _))
theorem way_0 (ns : List (List Int)) (n : Nat) (d : Int) : WyC ns n d (wayF 0) 0 := by
  intro D w B b m s v l pv p hB hD h hL hp hs hk
  have e : wayM ns (partM ns n d) s l p = callS ns s l p := by unfold wayM; rw [if_pos hk]
  rw [e]
  exact fcall_l n pv p hB h hL hp
theorem way_1 (ns : List (List Int)) (n : Nat) (d : Int) : WyC ns n d (wayF 1) 1 := by
  intro D w B b m s v l pv p hB hD h hL hp hs hk
  have e : wayM ns (partM ns n d) s l p = (s, textS (txP p) l) := by unfold wayM; rw [hk]; rfl
  rw [e]
  exact ftext_l n pv p hB h hL hp hs.1
theorem way_2 (ns : List (List Int)) (n : Nat) (d : Int) : WyC ns n d (wayF 2) 2 := by
  intro D w B b m s v l pv p hB hD h hL hp hs hk
  have e : wayM ns (partM ns n d) s l p = (s, putS l (1, rgP p, 0)) := by unfold wayM; rw [hk]; rfl
  rw [e]
  exact fset_l n pv p hB h hL hp hs.2.1
theorem way_3 (ns : List (List Int)) (n : Nat) (d : Int) : WyC ns n d (wayF 3) 3 := by
  intro D w B b m s v l pv p hB hD h hL hp hs hk
  have e : wayM ns (partM ns n d) s l p = (s, putS l (0, rgP p, 0)) := by unfold wayM; rw [hk]; rfl
  rw [e]
  exact foct_l n pv p hB h hL hp hs.2.1
theorem way_4 {ns : List (List Int)} {n : Nat} {d : Int} (HP : PartC ns n d) : WyC ns n d (wayF 4) 4 := by
  intro D w B b m s v l pv p hB hD h hL hp hs hk
  have e : wayM ns (partM ns n d) s l p = seqM (partM ns n d) (psP p) s l := by unfold wayM; rw [hk]; rfl
  rw [e]
  exact fseq_l HP pv p hB hD h hL hp hs
theorem all_ways {ns : List (List Int)} {n : Nat} {d : Int} (HP : PartC ns n d) : ∀ k, k ≤ 8 → WyC ns n d (wayF k) k := by
  intro k hk
  have : k = 0 ∨ k = 1 ∨ k = 2 ∨ k = 3 ∨ k = 4 ∨ k = 5 ∨ k = 6 ∨ k = 7 ∨ k = 8 := by omega
  rcases this with rfl | rfl | rfl | rfl | rfl | rfl | rfl | rfl | rfl
  · exact way_0 ns n d
  · exact way_1 ns n d
  · exact way_2 ns n d
  · exact way_3 ns n d
  · exact way_4 HP
  · exact way_5 HP
  · exact way_6 HP
  · exact way_7 HP
  · exact way_8 HP
theorem part_bad {ns : List (List Int)} {n : Nat} {d : Int} {s : Mk} {l : List SY} {p : PT} (h : kdP p < 0 ∨ 9 ≤ kdP p ∨ d = 131072 ∨ s.left = 0) : partM ns (n + 1) d s l p = (s.stop (atP p) 7, l) := by unfold partM; rw [if_pos h]
theorem part_good {ns : List (List Int)} {n : Nat} {d : Int} {s : Mk} {l : List SY} {p : PT} (h : ¬ (kdP p < 0 ∨ 9 ≤ kdP p ∨ d = 131072 ∨ s.left = 0)) : partM ns (n + 1) d s l p = wayM ns (partM ns n (d + 1)) ⟨s.made, s.left - 1, s.pl, s.why⟩ l p := by
  conv => lhs; unfold partM
  rw [if_neg h]
theorem part_zero (ns : List (List Int)) (d : Int) : PartC ns 0 d := fun D w B b m s v l pv p _ _ _ _ hp _ => hp.elim
theorem way_enter : ∀ k, k ≤ 8 → ∀ args W, (callFunc (wayF k) args).run Tryz.prog W = .ok (.enter (wayF k) args) W := by
  intro k hk
  have : k = 0 ∨ k = 1 ∨ k = 2 ∨ k = 3 ∨ k = 4 ∨ k = 5 ∨ k = 6 ∨ k = 7 ∨ k = 8 := by omega
  rcases this with rfl | rfl | rfl | rfl | rfl | rfl | rfl | rfl | rfl
  · exact enter_of Tryz.func51 rfl rfl
  · exact enter_of Tryz.func52 rfl rfl
  · exact enter_of Tryz.func53 rfl rfl
  · exact enter_of Tryz.func54 rfl rfl
  · exact enter_of Tryz.func55 rfl rfl
  · exact enter_of Tryz.func56 rfl rfl
  · exact enter_of Tryz.func57 rfl rfl
  · exact enter_of Tryz.func58 rfl rfl
  · exact enter_of Tryz.func59 rfl rfl
set_option maxRecDepth 20000 in
set_option maxHeartbeats 8000000 in
theorem part_succ {ns : List (List Int)} {n : Nat} {d : Int} (HW : ∀ k, k ≤ 8 → WyC ns n (d + 1) (wayF k) k) : PartC ns (n + 1) d := by
  intro D w B b m s v l pv p hB hD h hL hp hs
  obtain ⟨mv, hm⟩ := h
  have B1 : ∀ o, Below w.heap.size w (w.alloc o) := fun o => Below.new1 o
  have hlt := hm.lt
  have MB := hideR hm.blk
  have HM := hideR hm
  have HL := hideR hL
  have HP := hideR hp
  have HSP := hideR hs
  have HBB := hideR hB
  have HDD := hideR hD
  obtain ⟨hd0, hd1⟩ := hm.d0
  obtain ⟨hy0, hy1⟩ := hm.l0
  have hyy : ∃ y, y = s.left := ⟨_, rfl⟩
  obtain ⟨y, hyy⟩ := hyy
  rw [← hyy] at hy0 hy1
  have HYY := hideR hyy
  have C11 : ∀ o, (w.alloc o).cell? ⟨b, 11, none⟩ = some (.int .i64 d) := fun o => (mcells (hm.later (B1 o)).cells).2.2.1
  have C12 : ∀ o, (w.alloc o).cell? ⟨b, 12, none⟩ = some (.int .i64 y) := fun o => by rw [hyy]; exact (mcells (hm.later (B1 o)).cells).2.2.2.1
  have Z11 : ∀ o, (w.alloc o).frozen? ⟨b, 11, none⟩ = false := fun o => (mcells (hm.later (B1 o)).cells).2.2.2.2.2.2.2.1
  have Z12 : ∀ o, (w.alloc o).frozen? ⟨b, 12, none⟩ = false := fun o => (mcells (hm.later (B1 o)).cells).2.2.2.2.2.2.2.2.1
  obtain ⟨k, S, a1, n1, c1, a2, n2, c2, q, rfl, hk, hq⟩ := part_form hp
  have CS := hideR (fun W (bW : Below w.heap.size w W) => fstop_l (hm.later bW) q 7)
  obtain ⟨la, lc, rfl⟩ := hL.form
  by_cases k1 : k < 0
  · have FIN : Hid (partM ns (n + 1) d s l p = (s.stop q 7, l)) := by show _ = _; rw [hq]; exact part_bad (.inl (by omega))
    have b1 : decide (k < 0) = true := decide_eq_true k1
    clear hm hL hp hs hD hk hq HW hyy k1
    go_enter Tryz.func100, Tryz.ntmps100
    go_wp2_with fail
    refine (unhideR CS _ (B1 _)).mono ?_
    rintro e w2 ⟨rfl, hm2, f2⟩
    have FW : Fl B b none w w2 := (Fl.of (B1 _)).then f2 (fun g e => by cases e)
    have HFW := hideR FW
    have HM2 := hideR hm2
    clear CS hm2 f2 FW
    go_wp2_with fail
    go_ret
    rw [unhideR FIN]
    obtain ⟨bc, bf, hb⟩ := unhideR MB
    exact ⟨_, rfl, (unhideR HL).fl (unhideR HFW) hb (no_x _) (fun g _ e => by cases e), ⟨_, unhideR HM2⟩, (unhideR HFW).none, Nx.refl _ _⟩
  · by_cases k2 : 9 ≤ k
    · have FIN : Hid (partM ns (n + 1) d s l p = (s.stop q 7, l)) := by show _ = _; rw [hq]; exact part_bad (.inr (.inl (by omega)))
      have b1 : decide (k < 0) = false := decide_eq_false k1
      have b2 : decide (9 ≤ k) = true := decide_eq_true k2
      clear hm hL hp hs hD hk hq HW hyy k1 k2
      go_enter Tryz.func100, Tryz.ntmps100
      go_wp2_with fail
      refine (unhideR CS _ (B1 _)).mono ?_
      rintro e w2 ⟨rfl, hm2, f2⟩
      have FW : Fl B b none w w2 := (Fl.of (B1 _)).then f2 (fun g e => by cases e)
      have HFW := hideR FW
      have HM2 := hideR hm2
      clear CS hm2 f2 FW
      go_wp2_with fail
      go_ret
      rw [unhideR FIN]
      obtain ⟨bc, bf, hb⟩ := unhideR MB
      exact ⟨_, rfl, (unhideR HL).fl (unhideR HFW) hb (no_x _) (fun g _ e => by cases e), ⟨_, unhideR HM2⟩, (unhideR HFW).none, Nx.refl _ _⟩
    · by_cases k3 : d = 131072
      · have FIN : Hid (partM ns (n + 1) d s l p = (s.stop q 7, l)) := by show _ = _; rw [hq]; exact part_bad (.inr (.inr (.inl k3)))
        have b1 : decide (k < 0) = false := decide_eq_false k1
        have b2 : decide (9 ≤ k) = false := decide_eq_false k2
        have b3 : (d == 131072) = true := by rw [k3]; rfl
        clear hm hL hp hs hD hk hq HW hyy k1 k2 k3
        go_enter Tryz.func100, Tryz.ntmps100
        go_wp2_with fail
        refine (unhideR CS _ (B1 _)).mono ?_
        rintro e w2 ⟨rfl, hm2, f2⟩
        have FW : Fl B b none w w2 := (Fl.of (B1 _)).then f2 (fun g e => by cases e)
        have HFW := hideR FW
        have HM2 := hideR hm2
        clear CS hm2 f2 FW
        go_wp2_with fail
        go_ret
        rw [unhideR FIN]
        obtain ⟨bc, bf, hb⟩ := unhideR MB
        exact ⟨_, rfl, (unhideR HL).fl (unhideR HFW) hb (no_x _) (fun g _ e => by cases e), ⟨_, unhideR HM2⟩, (unhideR HFW).none, Nx.refl _ _⟩
      · by_cases k4 : y = 0
        · have FIN : Hid (partM ns (n + 1) d s l p = (s.stop q 7, l)) := by show _ = _; rw [hq]; exact part_bad (.inr (.inr (.inr (by omega))))
          have b1 : decide (k < 0) = false := decide_eq_false k1
          have b2 : decide (9 ≤ k) = false := decide_eq_false k2
          have b3 : (d == 131072) = false := beq_eq_false_iff_ne.2 k3
          have b4 : (y == 0) = true := by rw [k4]; rfl
          clear hm hL hp hs hD hk hq HW hyy k1 k2 k3 k4
          go_enter Tryz.func100, Tryz.ntmps100
          go_wp2_with fail
          refine (unhideR CS _ (B1 _)).mono ?_
          rintro e w2 ⟨rfl, hm2, f2⟩
          have FW : Fl B b none w w2 := (Fl.of (B1 _)).then f2 (fun g e => by cases e)
          have HFW := hideR FW
          have HM2 := hideR hm2
          clear CS hm2 f2 FW
          go_wp2_with fail
          go_ret
          rw [unhideR FIN]
          obtain ⟨bc, bf, hb⟩ := unhideR MB
          exact ⟨_, rfl, (unhideR HL).fl (unhideR HFW) hb (no_x _) (fun g _ e => by cases e), ⟨_, unhideR HM2⟩, (unhideR HFW).none, Nx.refl _ _⟩
        · have FIN : Hid (partM ns (n + 1) d s l p = wayM ns (partM ns n (d + 1)) ⟨s.made, s.left - 1, s.pl, s.why⟩ l p) := part_good (by omega)
          obtain ⟨kk, rfl⟩ : ∃ kk : Nat, k = (kk : Int) := ⟨k.toNat, by omega⟩
          have hkk : kk ≤ 8 := by omega
          have b1 : decide ((kk : Int) < 0) = false := decide_eq_false k1
          have b2 : decide (9 ≤ (kk : Int)) = false := decide_eq_false k2
          have b3 : (d == 131072) = false := beq_eq_false_iff_ne.2 k3
          have b4 : (y == 0) = false := beq_eq_false_iff_ne.2 k4
          have HWK := hideR (HW kk hkk)
          have HEN := way_enter kk hkk
          have HK := hideR hk
          have c11 := (mcells (unhideR HM).cells).2.2.1
          have c12 : w.cell? ⟨b, 12, none⟩ = some (.int .i64 y) := by rw [hyy]; exact (mcells (unhideR HM).cells).2.2.2.1
          have z11 := (mcells (unhideR HM).cells).2.2.2.2.2.2.2.1
          have z12 := (mcells (unhideR HM).cells).2.2.2.2.2.2.2.2.1
          have hd2 : d + 1 ≤ 131072 := by omega
          have hy2 : 1 ≤ y := by omega
          have MWY := hideR (fun (W : World) (v : Value) (m b : Nat) (d : Int) (s : Mk) (h : W.heap[b]? = some (.cells (mkCells v m b d s) 77)) => mk_way h kk hkk)
          unfold wayV at MWY
          generalize wayF kk = F at *
          have kk9 : (kk : Int) < 9 := by omega
          have kk0 : (0 : Int) ≤ kk := by omega
          clear hm hL hp hs hD hk hq HW hyy k1 k2 k3 k4 CS
          go_enter Tryz.func100, Tryz.ntmps100
          go_wp2_with fail
          have P0 : (((w.setCell ⟨b, 12, none⟩ (.int .i64 (y - 1))).setCell ⟨b, 11, none⟩ (.int .i64 (d + 1))).alloc (.cells #[.int .i64 (kk : Int), .string S, .slice a1 n1 c1, .slice a2 n2 c2, .int .i64 q] 42)).heap[w.heap.size]? = some (.cells #[.int .i64 (kk : Int), .string S, .slice a1 n1 c1, .slice a2 n2 c2, .int .i64 q] 42) := by have := heap_alloc_new ((w.setCell ⟨b, 12, none⟩ (.int .i64 (y - 1))).setCell ⟨b, 11, none⟩ (.int .i64 (d + 1))) (.cells #[.int .i64 (kk : Int), .string S, .slice a1 n1 c1, .slice a2 n2 c2, .int .i64 q] 42); simpa using this
          obtain ⟨m1, f1⟩ := (unhideR HM).less (y - 1) (by omega)
          obtain ⟨m2, f2⟩ := m1.deep (d + 1) (by omega)
          have m2 := m2.later (Below.new1 (.cells #[.int .i64 (kk : Int), .string S, .slice a1 n1 c1, .slice a2 n2 c2, .int .i64 q] 42))
          have FW : Fl B b none w (((w.setCell ⟨b, 12, none⟩ (.int .i64 (y - 1))).setCell ⟨b, 11, none⟩ (.int .i64 (d + 1))).alloc (.cells #[.int .i64 (kk : Int), .string S, .slice a1 n1 c1, .slice a2 n2 c2, .int .i64 q] 42)) := (f1.then f2 (fun g e => by cases e)).then (Fl.of (x := none) (Below.new1 (.cells #[.int .i64 (kk : Int), .string S, .slice a1 n1 c1, .slice a2 n2 c2, .int .i64 q] 42))) (fun g e => by cases e)
          have sW : (((w.setCell ⟨b, 12, none⟩ (.int .i64 (y - 1))).setCell ⟨b, 11, none⟩ (.int .i64 (d + 1))).alloc (.cells #[.int .i64 (kk : Int), .string S, .slice a1 n1 c1, .slice a2 n2 c2, .int .i64 q] 42)).heap.size = w.heap.size + 1 := by simp
          clear m1 f1 f2 C11 C12 Z11 Z12 c11 c12 z11 z12
          generalize (((w.setCell ⟨b, 12, none⟩ (.int .i64 (y - 1))).setCell ⟨b, 11, none⟩ (.int .i64 (d + 1))).alloc (.cells #[.int .i64 (kk : Int), .string S, .slice a1 n1 c1, .slice a2 n2 c2, .int .i64 q] 42)) = WW at *
          have P1 := unhideR MWY _ _ _ _ _ _ m2.cells
          obtain ⟨bc, bf, hb⟩ := unhideR MB
          have LW := (unhideR HL).fl FW hb (no_x _) (fun g _ e => by cases e)
          have PW := PartB.fl FW hb (no_x _) (unhideR HBB) (unhideR HP)
          have CA := hideR (fun W (bW : Below WW.heap.size WW W) => unhideR HWK D W B b m _ _ l _ p (Nat.le_trans (unhideR HBB) (Nat.le_trans FW.size bW.size)) (fun k hk => unhideR HDD k (Nat.le_trans FW.size (Nat.le_trans bW.size hk))) ⟨_, m2.later bW⟩ (LW.later bW) (PartB.kept (fun g hg => ⟨hg, bW.block g (Nat.lt_of_lt_of_le hg (Nat.le_trans (unhideR HBB) FW.size))⟩) (KR.of bW) (n + 1) _ p PW) (unhideR HSP) (unhideR HK).symm)
          generalize hr : wayM ns (partM ns n (d + 1)) ⟨s.made, y - 1, s.pl, s.why⟩ l p = r at *
          have HR := hideR hr
          have HFW := hideR FW
          have VL := hideR (unhideR HL).lt
          have VB := hideR (unhideR HL).block
          clear LW PW m2 FW hr HWK
          refine wp_region_held_drew (S := (fun w' => w'.heap[w.heap.size]? = some (.cells #[.int .i64 (kk : Int), .string S, .slice a1 n1 c1, .slice a2 n2 c2, .int .i64 q] 42) ∧ w'.cell? ⟨b, 2 + kk, none⟩ = some (.func (.func F) #[.pointer (some ⟨b, 0, none⟩)] #[]))) (by kernel_rfl) (⟨P0, P1⟩) (fun hHeld => ?_)
          refine wpAnyH_take (i := 0) (v := ?_) rfl (by kernel_rfl) (by kernel_rfl) (by kernel_rfl) (fun _ _ _ h => h) (Or.inl ⟨by kernel_rfl, ?_⟩) (by assumption) ?_
          rotate_left
          · intro w hSw; obtain ⟨⟨y0, y1, y2, y3, y4⟩, -⟩ := cells5 hSw.1; have q2 := hSw.2; (try clear hSw); go_simp; (try with_reducible rfl)
          try simp only [Act.put, List.getElem_toArray, List.getElem_cons_succ, List.getElem_cons_zero, List.setIfInBounds_toArray, List.set_cons_zero, List.set_cons_succ]
          refine wpAnyH_take (i := 1) (v := ?_) rfl (by kernel_rfl) (by kernel_rfl) (by kernel_rfl) (fun _ _ _ h => h) (Or.inl ⟨by kernel_rfl, ?_⟩) (by assumption) ?_
          rotate_left
          · intro w hSw; obtain ⟨⟨y0, y1, y2, y3, y4⟩, -⟩ := cells5 hSw.1; have q2 := hSw.2; (try clear hSw); go_simp; (try with_reducible rfl)
          try simp only [Act.put, List.getElem_toArray, List.getElem_cons_succ, List.getElem_cons_zero, List.setIfInBounds_toArray, List.set_cons_zero, List.set_cons_succ]
          refine wpAnyH_take (i := 2) (v := ?_) rfl (by kernel_rfl) (by kernel_rfl) (by kernel_rfl) (fun _ _ _ h => h) (Or.inl ⟨by kernel_rfl, ?_⟩) (by assumption) ?_
          rotate_left
          · intro w hSw; obtain ⟨⟨y0, y1, y2, y3, y4⟩, -⟩ := cells5 hSw.1; have q2 := hSw.2; (try clear hSw); go_simp; (try with_reducible rfl)
          try simp only [Act.put, List.getElem_toArray, List.getElem_cons_succ, List.getElem_cons_zero, List.setIfInBounds_toArray, List.set_cons_zero, List.set_cons_succ]
          refine wpAnyH_take (i := 3) (v := ?_) rfl (by kernel_rfl) (by kernel_rfl) (by kernel_rfl) (fun _ _ _ h => h) (Or.inl ⟨by kernel_rfl, ?_⟩) (by assumption) ?_
          rotate_left
          · intro w hSw; obtain ⟨⟨y0, y1, y2, y3, y4⟩, -⟩ := cells5 hSw.1; have q2 := hSw.2; (try clear hSw); go_simp; (try with_reducible rfl)
          try simp only [Act.put, List.getElem_toArray, List.getElem_cons_succ, List.getElem_cons_zero, List.setIfInBounds_toArray, List.set_cons_zero, List.set_cons_succ]
          refine wpAnyH_take (i := 4) (v := ?_) rfl (by kernel_rfl) (by kernel_rfl) (by kernel_rfl) (fun _ _ _ h => h) (Or.inl ⟨by kernel_rfl, ?_⟩) (by assumption) ?_
          rotate_left
          · intro w hSw; obtain ⟨⟨y0, y1, y2, y3, y4⟩, -⟩ := cells5 hSw.1; have q2 := hSw.2; (try clear hSw); go_simp; (try with_reducible rfl)
          try simp only [Act.put, List.getElem_toArray, List.getElem_cons_succ, List.getElem_cons_zero, List.setIfInBounds_toArray, List.set_cons_zero, List.set_cons_succ]
          refine wpAnyH_take (i := 5) (v := ?_) rfl (by kernel_rfl) (by kernel_rfl) (by kernel_rfl) (fun _ _ _ h => h) (Or.inl ⟨by kernel_rfl, ?_⟩) (by assumption) ?_
          rotate_left
          · intro w hSw; obtain ⟨⟨y0, y1, y2, y3, y4⟩, -⟩ := cells5 hSw.1; have q2 := hSw.2; (try clear hSw); go_simp; (try with_reducible rfl)
          try simp only [Act.put, List.getElem_toArray, List.getElem_cons_succ, List.getElem_cons_zero, List.setIfInBounds_toArray, List.set_cons_zero, List.set_cons_succ]
          refine wpAnyH_take (i := 6) (v := ?_) rfl (by kernel_rfl) (by kernel_rfl) (by kernel_rfl) (fun _ _ _ h => h) (Or.inl ⟨by kernel_rfl, ?_⟩) (by assumption) ?_
          rotate_left
          · intro w hSw; obtain ⟨⟨y0, y1, y2, y3, y4⟩, -⟩ := cells5 hSw.1; have q2 := hSw.2; (try clear hSw); go_simp; (try with_reducible rfl)
          try simp only [Act.put, List.getElem_toArray, List.getElem_cons_succ, List.getElem_cons_zero, List.setIfInBounds_toArray, List.set_cons_zero, List.set_cons_succ]
          refine wpAnyH_take (i := 7) (v := ?_) rfl (by kernel_rfl) (by kernel_rfl) (by kernel_rfl) (fun _ _ _ h => h) (Or.inl ⟨by kernel_rfl, ?_⟩) (by assumption) ?_
          rotate_left
          · intro w hSw; obtain ⟨⟨y0, y1, y2, y3, y4⟩, -⟩ := cells5 hSw.1; have q2 := hSw.2; (try clear hSw); go_simp; (try with_reducible rfl)
          try simp only [Act.put, List.getElem_toArray, List.getElem_cons_succ, List.getElem_cons_zero, List.setIfInBounds_toArray, List.set_cons_zero, List.set_cons_succ]
          refine wpAnyH_take (i := 8) (v := ?_) rfl (by kernel_rfl) (by kernel_rfl) (by kernel_rfl) (fun _ _ _ h => h) (Or.inl ⟨by kernel_rfl, ?_⟩) (by assumption) ?_
          rotate_left
          · intro w hSw; obtain ⟨⟨y0, y1, y2, y3, y4⟩, -⟩ := cells5 hSw.1; have q2 := hSw.2; (try clear hSw); go_simp; (try with_reducible rfl)
          try simp only [Act.put, List.getElem_toArray, List.getElem_cons_succ, List.getElem_cons_zero, List.setIfInBounds_toArray, List.set_cons_zero, List.set_cons_succ]
          refine wpAnyH_ready (rs := [9]) (by kernel_rfl) (by simp) ?_
          refine AllReadyH.cons rfl (fun K hK => ?_) AllReadyH.nil
          go_simp
          refine (unhideR CA _ draws_b).mono ?_
          clear CA
          rintro e w3 lf
          have lf := lf.mono_w (Fl.of (x := none) (draws_b (k := 1) (w := WW)))
          obtain ⟨v3, rfl, lv3, ⟨mv3, mk3⟩, fl3, nx3⟩ := lf
          have P0 : w3.heap[w.heap.size]? = some (.cells #[.int .i64 (kk : Int), .string S, .slice a1 n1 c1, .slice a2 n2 c2, .int .i64 q] 42) := fl3.block _ _ P0 (by omega) (fun e => by have := (unhideR VL _ e.symm).2; omega) (fun cs fr e => by injection e with _ e; exact absurd e (by decide))
          have P1 := unhideR MWY _ _ _ _ _ _ mk3.cells
          obtain ⟨ya, yc, rfl⟩ := lv3.form
          have c11 := (mcells mk3.cells).2.2.1
          have z11 := (mcells mk3.cells).2.2.2.2.2.2.2.1
          have h3 := mk3.lt
          have HLF := hideR (show LfR D B b m ns (d + 1) (.slice la l.length lc) WW r (.returned (.slice ya r.2.length yc)) w3 from ⟨_, rfl, lv3, ⟨mv3, mk3⟩, fl3, nx3⟩)
          have HM3 := hideR mk3
          clear lv3 mk3 fl3 nx3
          go_wp2_with fail
          refine hK.out _ _ (⟨P0, P1⟩) (fun hHeld => ?_)
          clear hK K
          try simp only [Act.put, List.getElem_toArray, List.getElem_cons_succ, List.getElem_cons_zero, List.setIfInBounds_toArray, List.set_cons_zero, List.set_cons_succ]
          refine wpAnyH_take (i := 10) (v := ?_) rfl (by kernel_rfl) (by kernel_rfl) (by kernel_rfl) (fun _ _ _ h => h) (Or.inl ⟨by kernel_rfl, ?_⟩) (by assumption) ?_
          rotate_left
          · intro w hSw; skip; (try clear hSw); go_simp; (try with_reducible rfl)
          try simp only [Act.put, List.getElem_toArray, List.getElem_cons_succ, List.getElem_cons_zero, List.setIfInBounds_toArray, List.set_cons_zero, List.set_cons_succ]
          refine wpAnyH_done (by kernel_rfl) ?_ _
          clear P0 P1 hHeld
          go_wp2_with fail
          go_ret
          rw [unhideR FIN]
          obtain ⟨v3, e3, lv3, -, fl3, nx3⟩ := (unhideR HLF).mono_w (unhideR HFW)
          injection e3 with e3
          subst e3
          obtain ⟨md, fd⟩ := (unhideR HM3).deep d (by omega)
          have hr : wayM ns (partM ns n (d + 1)) ⟨s.made, s.left - 1, s.pl, s.why⟩ l p = r := by rw [← unhideR HYY]; exact unhideR HR
          rw [hr]
          obtain ⟨bc3, bf3, hb3⟩ := (unhideR HM3).blk
          exact ⟨_, rfl, lv3.fl fd hb3 (no_x _) (fun g _ e => by cases e), ⟨_, md⟩, fl3.then fd (fun g e => by cases e), nx3⟩
theorem part_c (ns : List (List Int)) : ∀ (n : Nat) (d : Int), PartC ns n d := by
  intro n
  induction n with
  | zero => intro d; exact part_zero ns d
  | succ n ih => intro d; exact part_succ (all_ways (ih (d + 1)))
end Go.Proofs.YtamefbpdnblbdaaGreatDoor.F

