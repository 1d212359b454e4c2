/- Parts of the proof of NullTells that stand ahead of it (32: FlCopy, FlMay, FlAlts, FlSmall, FlAnew, FlPart, RdSeq). -/
import Derived.Test.YtnfgobgflcmepaaGreatDoorNullTellsM31
import Derived.Test.YtnfgobgflcmepaaGreatDoorNullTellsM8
set_option linter.unusedVariables false
set_option linter.unusedSimpArgs false
set_option maxRecDepth 20000
set_option maxHeartbeats 16000000
namespace Go.Proofs.YtnfgobgflcmepaaGreatDoor.F
open Go.RowKit Go.Proofs.YtnfgobgflcmepaaGreatDoor.T Go.Proofs.YtnfgobgflcmepaaGreatDoor.R
theorem only_one {f : PF} {p x : PT} {m : Mk} (h : psP p = [x]) : xV f p m = f m [] x := by unfold xV; rw [h]
theorem only_not {f : PF} {p : PT} {m : Mk} (h : (psP p).length ≠ 1) : xV f p m = (m.stop (atP p) 7, []) := by
 unfold xV
 split
 ·rename_i x e; rw [e] at h; simp at h
 ·rfl
theorem fonly_l {ns : List (List Int)} {n : Nat} {d : Int} (HP : Yj ns n d) {D : Nat → Prop} {w : World} {B b m : Nat} {s : Mk} (pv : Value) (p : PT) (hB : B ≤ w.heap.size) (hD : ∀ k, w.heap.size ≤ k → D k) (h : Mak D w B b m ns d s) (hp : PartB B (n + 1) w pv p) (hs : smP (n + 1) p) :
  Calls Tryz.prog 168 #[.pointer (some ⟨b, 0, none⟩), pv] w (LfR D B b m ns d (.slice none 0 0) w (xV (zX ns n d) p s)) := by
 obtain ⟨mv, hm⟩ := h
 obtain ⟨k, t, R, L, q, aR, cR, aL, cL, cs, rfl, rfl, f1, ht, f3, -, -, h5, hc⟩ := hp
 obtain ⟨-, -, hsl, hsm⟩ := hs
 simp only [ps_mk] at hsl hsm
 have B1 : ∀ o, Below w.heap.size w (w.alloc o) := fun o => Below.new1 o
 have hlt := hm.lt
 have hcl := h5.1
 have hmx := h5.2.1
 unfold maxLen at hmx
 by_cases h1 : L.length = 1
 ·obtain ⟨x, rfl⟩ := List.length_eq_one_iff.1 h1
  have FIN : Hid (xV (zX ns n d) (mk k t R [x] q) s = zX ns n d s [] x) := only_one rfl
  obtain ⟨g, off, k1, S1, a1, n1, c1, a2, n2, c2, p1, rfl, hg, q0, q1, q2, q3, q4, pv1, hd⟩ := parts_at h5 hc 0 (by simp)
  have e1 : x = p1 := by simpa using hd
  subst e1
  simp only [Nat.mul_zero, Nat.add_zero, List.length_cons, List.length_nil, Nat.zero_add] at q0 q1 q2 q3 q4 hcl ⊢
  have Q0 : ∀ o, (w.alloc o).cell? ⟨g, off, none⟩ = some (.int .i64 k1) := fun o => ((B1 o).cell hg).trans q0
  have Q1 : ∀ o, (w.alloc o).cell? ⟨g, off + 1, none⟩ = some (.string S1) := fun o => ((B1 o).cell hg).trans q1
  have Q2 : ∀ o, (w.alloc o).cell? ⟨g, off + 2, none⟩ = some (.slice a1 n1 c1) := fun o => ((B1 o).cell hg).trans q2
  have Q3 : ∀ o, (w.alloc o).cell? ⟨g, off + 3, none⟩ = some (.slice a2 n2 c2) := fun o => ((B1 o).cell hg).trans q3
  have Q4 : ∀ o, (w.alloc o).cell? ⟨g, off + 4, none⟩ = some (.int .i64 (atP x)) := fun o => ((B1 o).cell hg).trans q4
  have CP := zx (fun W (bW : Below w.heap.size w W) => HP D W B b m s (.slice none 0 0) [] _ x (by have := bW.size; omega) (fun k hk => hD k (by have := bW.size; omega)) ⟨mv, (hm.later bW).weak (fun g _ hd => ⟨hd, by simp [Value.ownBlock]⟩)⟩ (LV.nil W B) (PartB.kept (fun g hg => ⟨hg, bW.block g (by omega)⟩) (KR.of bW) n _ x pv1) (hsm x (by simp)))
  clear hm h5 hc hsm hD HP ht q0 q1 q2 q3 q4 pv1 hd h1
  generalize strOfNums t = S at *
  go_enter Tryz.func168, Tryz.ntmps168
  go_wp2_with fail
  refine (zy CP _ (B1 _)).mono ?_
  clear CP
  rintro e w2 lf
  obtain ⟨v2, rfl, lv2, -⟩ := id lf
  obtain ⟨ya, yc, rfl⟩ := lv2.form
  have HLF := zx lf
  clear lf lv2
  go_wp2_with fail
  go_ret
  rw [zy FIN]
  obtain ⟨v3, e3, l1, l2, l3, l4⟩ := zy HLF
  refine ⟨v3, e3, l1, l2, (Fl.of (x := none) (B1 _)).then l3 (fun g e => by cases e), fun g hg => ?_⟩
  rcases l4 g hg with c | c
  ·exact .inl c
  ·exact .inr (Nat.le_trans (Nat.le_succ _) (by simpa using c))
 ·have FIN : Hid (xV (zX ns n d) (mk k t R L q) s = (s.stop q 7, [])) := only_not (by simpa using h1)
  have hbb : ((L.length : Int) != 1) = true := by rw [bne_iff_ne]; omega
  have CS := zx (fun W (bW : Below w.heap.size w W) => YJ (hm.later bW) q 7)
  have hBm := hm.hB
  clear hm h5 hc hsm hD HP ht
  generalize strOfNums t = S at *
  generalize L.length = nL at *
  go_enter Tryz.func168, Tryz.ntmps168
  go_wp2_with fail
  refine (zy CS _ (B1 _)).mono ?_
  rintro e w2 ⟨rfl, hm2, f2⟩
  clear CS
  go_wp2_with fail
  go_ret
  rw [zy FIN]
  exact ⟨_, rfl, LV.nil _ _, ⟨mv, hm2.weak (fun g _ hd => ⟨hd, by simp [Value.ownBlock]⟩)⟩, (Fl.of (x := none) (B1 _)).then f2 (fun g e => by cases e), Nx.refl _ _⟩
/-! ### Symbols are copied -/
def smS (l : List SY) : Prop := ∀ s ∈ l, s.2.1.length ≤ 1000000
theorem SyC.one {w : World} : ∀ (l : List SY) (cs : List Value), SyC w l cs → ∀ u ∈ cs, u.oneCell' = true := by
 intro l
 induction l with
 | nil => intro cs h u hu; have : cs = [] := h; subst this; cases hu
 | cons s l ih =>
  intro cs h u hu
  obtain ⟨a, c, cs', rfl, -, -, ht⟩ := h
  rcases List.mem_cons.1 hu with rfl | hu
  ·rfl
  rcases List.mem_cons.1 hu with rfl | hu
  ·rfl
  rcases List.mem_cons.1 hu with rfl | hu
  ·rfl
  exact ih _ ht u hu
theorem SyC.at {w : World} : ∀ (l : List SY) (cs : List Value) (j : Nat), SyC w l cs → j < l.length → ∃ s a c, s ∈ l ∧ l.drop j = s :: l.drop (j + 1) ∧ cs[3 * j]? = some (.int .i64 s.1) ∧ cs[3 * j + 1]? = some (.slice a s.2.1.length c) ∧ cs[3 * j + 2]? = some (.int .i64 s.2.2) ∧ Rs w a s.2.1.length c s.2.1 ∧ Ty w a ∧
  ∀ (X : World) (a' : Option Addr) (c' : Nat), KR w X → Rs X a' s.2.1.length c' s.2.1 → Ty X a' → SyC X l (cs.set (3 * j + 1) (.slice a' s.2.1.length c')) := by
 intro l
 induction l with
 | nil => intro cs j _ hj; simp at hj
 | cons x l ih =>
  intro cs j h hj
  obtain ⟨a, c, cs', rfl, hr, hy, ht⟩ := h
  cases j with
  | zero => exact ⟨x, a, c, List.mem_cons_self .., rfl, rfl, rfl, rfl, hr, hy, fun X a' c' k hr' hy' => ⟨a', c', cs', rfl, hr', hy', SyC.kr k _ _ ht⟩⟩
  | succ j =>
   obtain ⟨s, a1, c1, hm, hd, h0, h1, h2, hr1, hy1, hset⟩ := ih cs' j ht (by simp at hj; omega)
   refine ⟨s, a1, c1, List.mem_cons_of_mem _ hm, by simpa using hd, ?_, ?_, ?_, hr1, hy1, fun X a' c' k hr' hy' => ?_⟩
   ·rw [show 3 * (j + 1) = 3 * j + 1 + 1 + 1 by omega]; simpa using h0
   ·rw [show 3 * (j + 1) + 1 = 3 * j + 1 + 1 + 1 + 1 by omega]; simpa using h1
   ·rw [show 3 * (j + 1) + 2 = 3 * j + 2 + 1 + 1 + 1 by omega]; simpa using h2
   ·obtain ⟨q1, q2⟩ := vJ k hr hy
    refine ⟨a, c, cs'.set (3 * j + 1) (.slice a' s.2.1.length c'), ?_, q1, q2, hset X a' c' k hr' hy'⟩
    rw [show 3 * (j + 1) + 1 = 3 * j + 1 + 1 + 1 + 1 by omega]
    rfl
theorem cloneS_l {B : Nat} (v : Value) (l : List SY) (w : World) (h : LV w B v l) :
  Calls Tryz.prog 203 #[v] w fun e w' => ∃ v', e = .returned v' ∧ LV w' w.heap.size v' l ∧ Below w.heap.size w w' := by
 obtain ⟨a, c, rfl⟩ := h.form
 obtain ⟨h41, cs, own, hs⟩ := h
 have hcl := SyC.len _ _ hs
 cases a with
 | none =>
  have hl0 : l = [] := by
   rcases own.2 with ⟨e, h0⟩ | ⟨g, cap, cur, e, -⟩
   ·exact List.eq_nil_of_length_eq_zero h0
   ·injection e with e1; cases e1
  subst hl0
  clear own hs hcl
  have heq : ∀ W, (binOp .eql 46 (.slice none 0 c) (.slice none 0 0)).run Tryz.prog W = .ok (.bool true) W := fun W => by kernel_rfl
  go_enter Tryz.func203, Tryz.ntmps203
  go_wp2_with fail
  go_ret
  exact ⟨_, rfl, LV.nil _ _, Below.refl _ _⟩
 | some ad =>
  obtain ⟨i0, hi0, hz0, hz1, hz2⟩ := info_parts sym_info
  have HN : ∀ o, ∀ (j : Nat) (u : Value), cs[j]? = some u → (w.alloc o).cell? (ad.add j) = some u := by
   intro o j u hu
   obtain ⟨g', h1, h2, -⟩ := Yo own hu
   simp only [Value.ownBlock] at h1
   rcases own.2 with ⟨e, h0⟩ | ⟨g, cap, cur, e, hb, hg, -⟩
   ·cases e
   ·injection e with e1 e2 e3
    injection e1 with e1
    subst e1
    injection h1 with h1
    subst h1
    rw [Addr.add_lit, Nat.zero_add, World.cell?_of_block ((Below.new1 o).block _ (Array.getElem?_eq_some_iff.1 hg).1)]
    exact h2
  have heq : ∀ W, (binOp .eql 46 (.slice (some ad) l.length c) (.slice none 0 0)).run Tryz.prog W = .ok (.bool false) W := fun W => by kernel_rfl
  have H1 := SyC.one _ _ hs
  have HS := zx hs
  clear hs own
  have HO : ∀ w : World, (w.alloc (.cells #[] 64)).ownsRow w.heap.size 64 3 (.slice (some ⟨w.heap.size, 0, none⟩) 0 0) 0 [] := fun w => World.ownsRow_made w #[] 0 (Nat.le_refl _) (Nat.zero_le _) rfl
  have hcl' : cs.length = l.length * 3 := by omega
  clear hcl
  go_enter Tryz.func203, Tryz.ntmps203
  go_wp2_with (at_builtin; refine wpList_append_own _ rfl _ _ 46 rfl w.heap.size 64 i0 _ 3 40 Tryz.underlying46 hi0 hz0 hz1 hz2 rfl (by omega) _ _ _ rfl (HO w) ad l.length c cs rfl hcl' (HN _) H1 (by unfold maxLen; omega) (by omega) (by simp) ?_; intro v' w6 hown1 hgrow hnil)
  go_ret
  rw [Nat.zero_add, List.nil_append] at hown1
  have hg2 : (w.alloc (.cells #[] 64)).grownBy w6 (some w.heap.size) := hgrow
  have B6 : Below w.heap.size w w6 := (Below.new1 _).grown hg2 (by simp) (fun k hk => by injection hk; omega)
  exact ⟨v', rfl, ⟨h41, cs, hown1, SyC.kr (KR.of B6) _ _ (zy HS)⟩, B6⟩
theorem copied_l {B : Nat} (v : Value) (l : List SY) (w : World) (h : LV w B v l) (hsm : smS l) :
  Calls Tryz.prog 169 #[v] w fun e w' => ∃ v', e = .returned v' ∧ LV w' w.heap.size v' l ∧ Below w.heap.size w w' := by
 have C1 := zx (cloneS_l v l w h)
 obtain ⟨a, c, rfl⟩ := h.form
 have h41 := h.1
 have HSM := zx hsm
 clear h hsm
 generalize hn : l.length = n at *
 have HN := zx hn
 clear hn
 go_enter Tryz.func169, Tryz.ntmps169
 go_wp2_with fail
 refine (zy C1).mono ?_
 clear C1
 rintro e w1 ⟨v1, rfl, lv1, b1⟩
 obtain ⟨a1, c1, rfl⟩ := lv1.form
 rw [zy HN] at lv1 ⊢
 have hcap : n ≤ c1 ∧ c1 ≤ maxLen := by
  obtain ⟨-, cs, own, -⟩ := lv1
  rw [zy HN] at own
  rcases own.2 with ⟨e, h0⟩ | ⟨g, cap, cur, e, hb, hg, k1, k2, -⟩
  ·injection e with e1 e2 e3; subst e3; unfold maxLen; omega
  ·injection e with e1 e2 e3; subst e3; exact ⟨k1, k2⟩
 obtain ⟨hc1, hc2⟩ := hcap
 unfold maxLen at hc2
 have LV1 := zx lv1
 have B1 := zx b1
 have s1 := b1.size
 clear lv1 b1
 go_wp2_with fail
 go_loopw [8] (fun i wr => ∃ (j : Nat), j ≤ n ∧ i = .int .i64 (j : Int) ∧ Hid (LV wr w.heap.size (.slice a1 n c1) l) ∧ Hid (Below w.heap.size w wr) ∧ w.heap.size ≤ wr.heap.size) (fun i _ => n - (intOf i).toNat)
 case atStart => exact ⟨0, Nat.zero_le _, rfl, LV1, B1, s1⟩
 case round =>
  obtain ⟨j, hj, rfl, hL, hB, hsw⟩ := hrel
  by_cases hlt : j < n
  ·obtain ⟨k41, cs, own, hs⟩ := zy hL
   obtain ⟨s, a2, c2, hm, hd, q0, q1, q2, hr, hy, hset⟩ := SyC.at l cs j hs (by rw [zy HN]; exact hlt)
   obtain ⟨g, e1, cg, fg⟩ := Yo own q1
   have e2 : a1 = some ⟨g, 0, none⟩ := by
    rcases own.2 with ⟨e, h0⟩ | ⟨g', cap, cur, e, -⟩
    ·rw [zy HN] at h0; omega
    ·injection e with e1' e2 e3
     subst e1'
     simp only [Value.ownBlock, Option.some.injEq] at e1
     rw [e1]
   subst e2
   have hgl : g < wr.heap.size := (own.lt g e1).2
   have hgB : w.heap.size ≤ g := (own.lt g e1).1
   obtain ⟨gc, hgc⟩ := je own g e1
   have CC := zx (fun W (bW : Below wr.heap.size wr W) => cloneR_l a2 c2 s.2.1 W (hr.later bW (Nat.le_refl _)) (zy HSM s hm))
   have NXT := zx (fun (w2 : World) (b2 : Below wr.heap.size wr w2) (a' : Option Addr) (c' : Nat) (hr' : Rs w2 a' s.2.1.length c' s.2.1) (hy' : Ty w2 a') => show LV (w2.setCell ⟨g, 3 * j + 1, none⟩ (.slice a' s.2.1.length c')) w.heap.size (.slice (some ⟨g, 0, none⟩) n c1) l from by
    have k2 : KR w2 (w2.setCell ⟨g, 3 * j + 1, none⟩ (.slice a' s.2.1.length c')) := KR.set (KR.refl _) ((b2.block g hgl).trans hgc) (by decide) _ _
    obtain ⟨r1, r2⟩ := vJ k2 hr' hy'
    refine ⟨k41, _, own_set (ju b2 own) e1 ?_ _, hset _ a' c' ((KR.of b2).then k2) r1 r2⟩
    exact (List.getElem?_eq_some_iff.1 q1).1)
   have FZ := zx (fun (w2 : World) (b2 : Below wr.heap.size wr w2) => show w2.cell? ⟨g, 3 * j + 1, none⟩ = some (.slice a2 s.2.1.length c2) ∧ w2.frozen? ⟨g, 3 * j + 1, none⟩ = false from by
    obtain ⟨g', e', c', f'⟩ := Yo (ju b2 own) q1
    rw [e1] at e'; injection e' with e'; subst e'
    exact ⟨c', f'⟩)
   have n3 : j * 3 = 3 * j := by omega
   generalize hR : s.2.1 = R at *
   generalize hRn : R.length = rn at *
   have HRN := zx hRn
   clear own hs hd q0 q1 q2 hr hy hset hgc fg e1 hm hR hRn
   go_wp2_with fail
   refine (zy CC _ (Below.refl _ _)).mono ?_
   clear CC
   rintro e w2 ⟨a3, c3, rfl, r3, y3, b2⟩
   obtain ⟨cg2, fg2⟩ := zy FZ w2 b2
   have NX := zx (zy NXT w2 b2 a3 c3 r3 y3)
   have hgl2 : g < w2.heap.size := Nat.lt_of_lt_of_le hgl b2.size
   have BB := zx (show Below w.heap.size w (w2.setCell ⟨g, 3 * j + 1, none⟩ (.slice a3 rn c3)) from ((zy hB).trans (b2.mono hsw)).setCell (p := ⟨g, 3 * j + 1, none⟩) hgB _)
   have s2 : w.heap.size ≤ (w2.setCell ⟨g, 3 * j + 1, none⟩ (.slice a3 rn c3)).heap.size := (zy BB).size
   clear NXT FZ r3 y3 b2 hL hB
   go_wp2_with fail
   go_roundw
   case rel => exact ⟨j + 1, by omega, by simp, NX, BB, s2⟩
   case measure => simp [intOf]; omega
  ·obtain rfl : j = n := by omega
   go_wp2_with fail
   go_ret
   exact ⟨_, rfl, zy hL, zy hB⟩
def byB (l : List (Int × Int)) : Bool := decide (l.length = 0) || decide ((l.getD (l.length - 1) (0, 0)).2 ≤ 255)
def jJ (s : SY) (many : Int) : Bool :=
 if s.1 = 0 then decide (s.2.2 = 0) && (G.zQ s.2.1 && byB s.2.1)
 else if s.1 = 1 then decide (s.2.2 = 0) && G.zQ s.2.1
 else if s.1 = 2 then decide (0 ≤ s.2.2) && (decide (s.2.2 < many) && decide (s.2.1.length = 0))
 else false
def qj (p : PRD) (many : Int) : Bool := YK p.1 && (decide (0 ≤ p.2.1) && (decide (p.2.1 ≤ 63) && (G.zQ p.2.2 && p.1.all fun l => l.all fun s => jJ s many)))
def yo (l : List PRD) : Bool := decide (1 ≤ l.length) && (decide (l.length ≤ 60) && l.all fun p => qj p l.length)
theorem ofBytes_l (a : Option Addr) (c : Nat) (l : List (Int × Int)) (w : World) (h : Rs w a l.length c l) :
  Calls Tryz.prog 144 #[.slice a l.length c] w fun e w' => e = .returned (.bool (byB l)) ∧ w' = w := by
 have hc := h.hcap
 have hm := h.hmax
 unfold maxLen at hm
 unfold byB
 by_cases h0 : l.length = 0
 ·have b0 : ((l.length : Int) == 0) = true := by rw [h0]; rfl
  rw [decide_eq_true h0]
  clear h
  generalize l.length = n at *
  clear h0
  go_enter Tryz.func144, Tryz.ntmps144
  go_wp2_with fail
  go_ret
  exact ⟨rfl, rfl⟩
 ·have b0 : ((l.length : Int) == 0) = false := beq_eq_false_iff_ne.2 (by omega)
  rw [decide_eq_false h0]
  obtain ⟨g, off, e, -, q2⟩ := h.hcell (l.length - 1) (by omega)
  subst e
  have hg : g < w.heap.size := zY q2
  clear h
  have hx : ((l.length : Int) - 1) = ((l.length - 1 : Nat) : Int) := by omega
  have h1 : l.length - 1 < l.length := by omega
  generalize hi : l.length - 1 = i at *
  generalize (l.getD i (0, 0)).2 = H at *
  generalize l.length = n at *
  have HX := zx hx
  clear hx hi
  have i2 : i * 2 = 2 * i := by omega
  rw [i2] at q2
  have ev : (n : Int) - 1 = (i : Int) := zy HX
  clear HX
  go_enter Tryz.func144, Tryz.ntmps144
  go_wp2_with fail
  go_ret
  exact ⟨by simp, rfl⟩
theorem maySym_l (s : SY) (a : Option Addr) (c : Nat) (many : Int) (w : World) (h : Rs w a s.2.1.length c s.2.1) :
  Calls Tryz.prog 97 #[.agg #[.int .i64 s.1, .slice a s.2.1.length c, .int .i64 s.2.2], .int .i64 many] w fun e w' => e = .returned (.bool (jJ s many)) ∧ Below w.heap.size w w' := by
 have B1 : ∀ o, Below w.heap.size w (w.alloc o) := fun o => Below.new1 o
 have CM := zx (fun W (bW : Below w.heap.size w W) => rgMay_any a s.2.1.length c s.2.1 W (h.later bW (Nat.le_refl _)))
 have CB := zx (fun W (bW : Below w.heap.size w W) => ofBytes_l a c s.2.1 W (h.later bW (Nat.le_refl _)))
 obtain ⟨k, R, N⟩ := s
 simp only at h CM CB ⊢
 have hc := h.hcap
 have hm := h.hmax
 unfold maxLen at hm
 unfold jJ
 simp only
 clear h
 generalize G.zQ R = rm at *
 generalize byB R = rb at *
 generalize R.length = n at *
 by_cases hk0 : k = 0
 ·have hk := hk0
  clear hk0
  rw [if_pos hk]
  have bk : (k == 0) = true := by rw [hk]; rfl
  clear hk
  by_cases hN : N = 0
  ·have bn : (N == 0) = true := by rw [hN]; rfl
   rw [decide_eq_true hN]
   clear hN
   cases rm with
   | false =>
    clear CB
    go_enter Tryz.func97, Tryz.ntmps97
    go_wp2_with fail
    refine (zy CM _ (B1 _)).mono ?_
    rintro e w1 ⟨rfl, b1⟩
    clear CM
    go_wp2_with fail
    go_ret
    exact ⟨by simp, zw (B1 _) b1⟩
   | true =>
    go_enter Tryz.func97, Tryz.ntmps97
    go_wp2_with fail
    refine (zy CM _ (B1 _)).mono ?_
    rintro e w1 ⟨rfl, b1⟩
    clear CM
    obtain ⟨⟨x0, x1, x2⟩, -⟩ := qZ (zV b1)
    go_wp2_with fail
    refine (zy CB _ (zw (B1 _) b1)).mono ?_
    rintro e w2 ⟨rfl, hw2⟩
    subst hw2
    clear CB
    go_wp2_with fail
    go_ret
    exact ⟨by simp, zw (B1 _) b1⟩
  ·have bn : (N == 0) = false := beq_eq_false_iff_ne.2 hN
   rw [decide_eq_false hN]
   clear hN CM CB
   go_enter Tryz.func97, Tryz.ntmps97
   go_wp2_with fail
   go_ret
   exact ⟨by simp, B1 _⟩
 ·by_cases hk1 : k = 1
  ·have hk := hk1
   clear hk1
   rw [if_neg hk0, if_pos hk]
   have bk0 : (k == 0) = false := beq_eq_false_iff_ne.2 hk0
   have bk : (k == 1) = true := by rw [hk]; rfl
   clear hk hk0
   by_cases hN : N = 0
   ·have bn : (N == 0) = true := by rw [hN]; rfl
    rw [decide_eq_true hN]
    clear hN CB
    go_enter Tryz.func97, Tryz.ntmps97
    go_wp2_with fail
    refine (zy CM _ (B1 _)).mono ?_
    rintro e w1 ⟨rfl, b1⟩
    clear CM
    go_wp2_with fail
    go_ret
    exact ⟨by simp, zw (B1 _) b1⟩
   ·have bn : (N == 0) = false := beq_eq_false_iff_ne.2 hN
    rw [decide_eq_false hN]
    clear hN CM CB
    go_enter Tryz.func97, Tryz.ntmps97
    go_wp2_with fail
    go_ret
    exact ⟨by simp, B1 _⟩
  ·by_cases hk : k = 2
   ·rw [if_neg hk0, if_neg hk1, if_pos hk]
    have bk0 : (k == 0) = false := beq_eq_false_iff_ne.2 hk0
    have bk1 : (k == 1) = false := beq_eq_false_iff_ne.2 hk1
    have bk : (k == 2) = true := by rw [hk]; rfl
    clear hk hk0 hk1 CM CB
    by_cases hN : 0 ≤ N
    ·have bn : decide (0 ≤ N) = true := decide_eq_true hN
     rw [bn]
     by_cases hM : N < many
     ·have bm : decide (N < many) = true := decide_eq_true hM
      rw [bm]
      clear hN hM
      have e0 : decide (n = 0) = ((n : Int) == 0) := by by_cases h : n = 0 <;> simp [h]
      rw [e0]
      go_enter Tryz.func97, Tryz.ntmps97
      go_wp2_with fail
      go_ret
      exact ⟨by simp, B1 _⟩
     ·have bm : decide (N < many) = false := decide_eq_false hM
      rw [bm]
      clear hN hM
      go_enter Tryz.func97, Tryz.ntmps97
      go_wp2_with fail
      go_ret
      exact ⟨by simp, B1 _⟩
    ·have bn : decide (0 ≤ N) = false := decide_eq_false hN
     rw [bn]
     clear hN
     go_enter Tryz.func97, Tryz.ntmps97
     go_wp2_with fail
     go_ret
     exact ⟨by simp, B1 _⟩
   ·rw [if_neg hk0, if_neg hk1, if_neg hk]
    have bk0 : (k == 0) = false := beq_eq_false_iff_ne.2 hk0
    have bk1 : (k == 1) = false := beq_eq_false_iff_ne.2 hk1
    have bk : (k == 2) = false := beq_eq_false_iff_ne.2 hk
    clear hk hk0 hk1 CM CB
    go_enter Tryz.func97, Tryz.ntmps97
    go_wp2_with fail
    go_ret
    exact ⟨rfl, B1 _⟩
theorem syms_at {D : Nat → Prop} {w : World} {x : Option Addr} {cc n : Nat} {l : List SY} (h : SymsV D w (.slice x n cc) l) (j : Nat) (hj : j < l.length) : ∃ g off s a c, x = some ⟨g, off, none⟩ ∧ g < w.heap.size ∧ w.cell? ⟨g, off + 3 * j, none⟩ = some (.int .i64 s.1) ∧ w.cell? ⟨g, off + 3 * j + 1, none⟩ = some (.slice a s.2.1.length c) ∧ w.cell? ⟨g, off + 3 * j + 2, none⟩ = some (.int .i64 s.2.2) ∧ Rs w a s.2.1.length c s.2.1 ∧ Ty w a ∧ l.drop j = s :: l.drop (j + 1) ∧ s ∈ l := by
 obtain ⟨a', c', cs, e, hr, hs⟩ := h
 injection e with e1 e2 e3
 subst e1; subst e3
 obtain ⟨s, a, c, hm, hd, h0, h1, h2, hrs, hty, -⟩ := SyC.at l cs j hs hj
 obtain ⟨g, off, ha, -, q0⟩ := hr.cell h0
 have key : ∀ i u, cs[3 * j + i]? = some u → w.cell? ⟨g, off + 3 * j + i, none⟩ = some u := fun i u hu => by
  obtain ⟨g', off', ha', -, q⟩ := hr.cell hu
  rw [ha] at ha'
  injection ha' with ha'
  injection ha' with e1 e2
  subst e1; subst e2
  rw [Nat.add_assoc]; exact q
 exact ⟨g, off, s, a, c, ha, zY q0, q0, key 1 _ h1, key 2 _ h2, hrs, hty, hd, hm⟩
theorem SymsV.form {D : Nat → Prop} {w : World} {x : Option Addr} {n cc : Nat} {l : List SY} (h : SymsV D w (.slice x n cc) l) : n = l.length ∧ l.length ≤ cc ∧ cc ≤ maxLen := by
 obtain ⟨a', c', cs, e, hr, hs⟩ := h
 injection e with e1 e2 e3
 subst e3
 exact ⟨e2, hr.1, hr.2.1⟩
theorem SymsV.none (D : Nat → Prop) (w : World) : SymsV D w (.slice Option.none 0 0) [] := ⟨Option.none, 0, [], rfl, ⟨Nat.le_refl _, Nat.zero_le _, .inl rfl⟩, rfl⟩
theorem RowT.new {t : TypeId} {D : Nat → Prop} {w : World} {g : Nat} {cs : Array Value} {fr : Nat × Nat} (hg : w.heap[g]? = some (.cells cs t fr)) (hd : D g) (n : Nat) (hn : n ≤ maxLen) : RowT t D w (some ⟨g, 0, none⟩) n n cs.toList :=
 ⟨Nat.le_refl _, hn, .inr ⟨g, 0, cs, fr, rfl, hd, hg, fun j u hu => by rw [Nat.zero_add]; simpa using hu⟩⟩
theorem AltV.two {D : Nat → Prop} {w X : World} (k : Kp D D w X) {v1 v2 : Value} {l1 l2 : List SY} (h1 : SymsV D w v1 l1) (h2 : SymsV D w v2 l2) {g : Nat} {fr : Nat × Nat} (hg : X.heap[g]? = some (.cells #[v1, v2] 46 fr)) (hd : D g) : AltV D X (.slice (some ⟨g, 0, none⟩) 2 2) [l1, l2] :=
 ⟨_, _, _, rfl, RowT.new hg hd 2 (by unfold maxLen; omega), v1, [v2], rfl, h1.kp k, v2, [], rfl, h2.kp k, rfl⟩
theorem AltV.one {D : Nat → Prop} {w X : World} (k : Kp D D w X) {v1 : Value} {l1 : List SY} (h1 : SymsV D w v1 l1) {g : Nat} {fr : Nat × Nat} (hg : X.heap[g]? = some (.cells #[v1] 46 fr)) (hd : D g) : AltV D X (.slice (some ⟨g, 0, none⟩) 1 1) [l1] :=
 ⟨_, _, _, rfl, RowT.new hg hd 1 (by unfold maxLen; omega), v1, [], rfl, h1.kp k, rfl⟩
def AtC (ns : List (List Int)) (n : Nat) (d : Int) (f : Nat) (g : PT → Nat → Mk → Mk × List (List SY)) : Prop :=
 ∀ (D : Nat → Prop) (w : World) (B b m : Nat) (s : Mk) (pv : Value) (p : PT) (nn : Nat), B ≤ w.heap.size → (∀ k, w.heap.size ≤ k → D k) → Mak D w B b m ns d s → PartB B (n + 1) w pv p → smP (n + 1) p →
  Calls Tryz.prog f #[.pointer (some ⟨b, 0, none⟩), pv, .agg #[.int .i64 2, .slice none 0 0, .int .i64 (nn : Int)]] w (AlR D B b m ns d w (g p nn s))
theorem LV.symsN {D : Nat → Prop} {w X : World} {B : Nat} {v : Value} {l : List SY} (h : LV X B v l) (nx : Nx w (.slice none 0 0) v) (hD : ∀ k, w.heap.size ≤ k → D k) : SymsV D X v l :=
 h.syms (fun g hg => by
  rcases nx g hg with c | c
  ·cases c
  ·exact hD g c)
theorem jz {B n : Nat} {w : World} {pv : Value} {p : PT} (h : PartB B (n + 1) w pv p) : ∃ k S a1 n1 c1 a2 n2 c2 q, pv = .agg #[.int .i64 k, .string S, .slice a1 n1 c1, .slice a2 n2 c2, .int .i64 q] ∧ k = kdP p ∧ q = atP p := by
 obtain ⟨k, t, R, L, q, aR, cR, aL, cL, cs, rfl, rfl, -⟩ := h
 exact ⟨_, _, _, _, _, _, _, _, _, rfl, rfl, rfl⟩
theorem fstar_l {ns : List (List Int)} {n : Nat} {d : Int} (HP : Yj ns n d) : AtC ns n d 132 (fun p nn s => ((xV (zX ns n d) p s).1, [jW (xV (zX ns n d) p s).2 (2, [], (nn : Int)), []])) := by
 intro D w B b m s pv p nn hB hD h hp hs
 obtain ⟨mv, hm⟩ := h
 have B2 : ∀ o1 o2, Below w.heap.size w ((w.alloc o1).alloc o2) := fun o1 o2 => (Below.new1 o1).alloc (by simp) o2
 have CO := zx (fun W (bW : Below w.heap.size w W) => fonly_l HP pv p (by have := bW.size; omega) (fun k hk => hD k (by have := bW.size; omega)) ⟨mv, hm.later bW⟩ (PartB.kept (fun g hg => ⟨hg, bW.block g (by omega)⟩) (KR.of bW) (n + 1) _ p hp) hs)
 obtain ⟨k, S, a1, n1, c1, a2, n2, c2, q, rfl, -, -⟩ := jz hp
 have HDD := zx hD
 have hlt := hm.lt
 have HLT := zx hB
 clear hm hp hs hD
 dsimp only
 generalize xV (zX ns n d) p s = r at *
 go_enter Tryz.func132, Tryz.ntmps132
 go_wp2_with fail
 have P0 : ((w.alloc (.cells #[.int .i64 k, .string S, .slice a1 n1 c1, .slice a2 n2 c2, .int .i64 q] 40)).alloc (.cells #[.int .i64 2, .slice none 0 0, .int .i64 (nn : Int)] 64)).heap[w.heap.size]? = some (.cells #[.int .i64 k, .string S, .slice a1 n1 c1, .slice a2 n2 c2, .int .i64 q] 40) := zK (heap_alloc_new _ _) _
 have P1 : ((w.alloc (.cells #[.int .i64 k, .string S, .slice a1 n1 c1, .slice a2 n2 c2, .int .i64 q] 40)).alloc (.cells #[.int .i64 2, .slice none 0 0, .int .i64 (nn : Int)] 64)).heap[w.heap.size + 1]? = some (.cells #[.int .i64 2, .slice none 0 0, .int .i64 (nn : Int)] 64) := by have := heap_alloc_new (w.alloc (.cells #[.int .i64 k, .string S, .slice a1 n1 c1, .slice a2 n2 c2, .int .i64 q] 40)) (.cells #[.int .i64 2, .slice none 0 0, .int .i64 (nn : Int)] 64); simpa using this
 have BW : Below w.heap.size w ((w.alloc (.cells #[.int .i64 k, .string S, .slice a1 n1 c1, .slice a2 n2 c2, .int .i64 q] 40)).alloc (.cells #[.int .i64 2, .slice none 0 0, .int .i64 (nn : Int)] 64)) := B2 _ _
 have sW : ((w.alloc (.cells #[.int .i64 k, .string S, .slice a1 n1 c1, .slice a2 n2 c2, .int .i64 q] 40)).alloc (.cells #[.int .i64 2, .slice none 0 0, .int .i64 (nn : Int)] 64)).heap.size = w.heap.size + 2 := by simp
 generalize ((w.alloc (.cells #[.int .i64 k, .string S, .slice a1 n1 c1, .slice a2 n2 c2, .int .i64 q] 40)).alloc (.cells #[.int .i64 2, .slice none 0 0, .int .i64 (nn : Int)] 64)) = WW at *
 refine wp_region_held_drew (S := (fun w' => w'.heap[w.heap.size]? = some (.cells #[.int .i64 k, .string S, .slice a1 n1 c1, .slice a2 n2 c2, .int .i64 q] 40) ∧ w'.heap[w.heap.size + 1]? = some (.cells #[.int .i64 2, .slice none 0 0, .int .i64 (nn : Int)] 64))) (by kernel_rfl) (⟨P0, P1⟩) (fun hHeld => ?_)
 refine tkh 0 ?_ rfl (by kernel_rfl) (fun _ _ _ h => h) ?_ (by assumption) ?_
 rotate_left
 ·intro w hSw; obtain ⟨⟨y0, y1, y2, y3, y4⟩, -⟩ := yV hSw.1; obtain ⟨⟨z0, z1, z2⟩, -⟩ := qZ hSw.2; (try clear hSw); go_simp; (try with_reducible rfl)
 try simp only [pls]
 refine tkh 1 ?_ rfl (by kernel_rfl) (fun _ _ _ h => h) ?_ (by assumption) ?_
 rotate_left
 ·intro w hSw; obtain ⟨⟨y0, y1, y2, y3, y4⟩, -⟩ := yV hSw.1; obtain ⟨⟨z0, z1, z2⟩, -⟩ := qZ hSw.2; (try clear hSw); go_simp; (try with_reducible rfl)
 try simp only [pls]
 refine tkh 3 ?_ rfl (by kernel_rfl) (fun _ _ _ h => h) ?_ (by assumption) ?_
 rotate_left
 ·intro w hSw; obtain ⟨⟨y0, y1, y2, y3, y4⟩, -⟩ := yV hSw.1; obtain ⟨⟨z0, z1, z2⟩, -⟩ := qZ hSw.2; (try clear hSw); go_simp; (try with_reducible rfl)
 try simp only [pls]
 refine wpAnyH_ready (rs := [2]) (by kernel_rfl) (by simp) ?_
 refine AllReadyH.cons rfl (fun K hK => ?_) AllReadyH.nil
 go_simp
 refine (zy CO _ (zw BW zk)).mono ?_
 clear CO
 rintro e w1 ⟨v1, rfl, lv1, ⟨mv1, mk1⟩, fl1, nx1⟩
 have P0 : w1.heap[w.heap.size]? = some (.cells #[.int .i64 k, .string S, .slice a1 n1 c1, .slice a2 n2 c2, .int .i64 q] 40) := fl1.block _ _ P0 (by omega) (by simp [Value.ownBlock]) (fun cs fr e => by injection e with _ e; exact absurd e (by decide))
 have P1 : w1.heap[w.heap.size + 1]? = some (.cells #[.int .i64 2, .slice none 0 0, .int .i64 (nn : Int)] 64) := fl1.block _ _ P1 (by omega) (by simp [Value.ownBlock]) (fun cs fr e => by injection e with _ e; exact absurd e (by decide))
 have FW := zx ((Fl.of (x := none) (b := b) (B := B) (zw BW (zk (k := 1)))).then fl1 (fun g e => by cases e))
 have s1 := (zy FW).size
 have sD : WW.drew.heap.size = WW.heap.size := rfl
 have CP := zx (fun W (bW : Below w1.heap.size w1 W) => fput_l (lv1.later bW) (by have := bW.size; omega) 2 (nn : Int) [] none 0 (Rs.nil W) (Ty.nil W))
 simp only [List.length_nil] at CP
 have I1 := zx (show InvL D B b m ns d (.slice none 0 0) w r.1 v1 r.2 w1 from ⟨lv1, ⟨mv1, mk1⟩, zy FW, fun g hg => by
   rcases nx1 g hg with c | c
   ·exact .inl c
   ·have c : WW.heap.size ≤ g := c
    exact .inr (by omega)⟩)
 have NV : ∀ g, v1.ownBlock = some g → w.heap.size + 2 ≤ g := fun g hg => by
   rcases nx1 g hg with c | c
   ·cases c
   ·have c : WW.heap.size ≤ g := c
    omega
 obtain ⟨xa, xc, rfl⟩ := lv1.form
 have HMK1 := zx mk1
 clear lv1 mk1 nx1 fl1
 go_wp2_with fail
 refine hK.out _ _ (⟨P0, P1⟩) (fun hHeld => ?_)
 clear hK K
 try simp only [pls]
 refine wpAnyH_ready (rs := [4]) (by kernel_rfl) (by simp) ?_
 refine AllReadyH.cons rfl (fun K hK => ?_) AllReadyH.nil
 go_simp
 refine (zy CP _ (Below.refl _ _)).mono ?_
 clear CP
 rintro e w2 ⟨v2, rfl, lv2, gr2, nx2, kr2⟩
 have P0 : w2.heap[w.heap.size]? = some (.cells #[.int .i64 k, .string S, .slice a1 n1 c1, .slice a2 n2 c2, .int .i64 q] 40) := (gr2.block _ (Array.getElem?_eq_some_iff.1 P0).1 (fun e => by have := NV _ e.symm; omega)).trans P0
 have P1 : w2.heap[w.heap.size + 1]? = some (.cells #[.int .i64 2, .slice none 0 0, .int .i64 (nn : Int)] 64) := (gr2.block _ (Array.getElem?_eq_some_iff.1 P1).1 (fun e => by have := NV _ e.symm; omega)).trans P1
 have I2 := zx ((zy I1).on (XX (zy I1).1 (zy HMK1).blk (zy HMK1) (Fl.refl _ _ _ _) lv2 gr2 nx2))
 obtain ⟨ya, yc, rfl⟩ := lv2.form
 clear lv2 gr2 nx2 kr2 I1 HMK1
 have s2 := (zy I2).2.2.1.size
 go_wp2_with fail
 refine hK.out _ _ (⟨P0, P1⟩) (fun hHeld => ?_)
 clear hK K
 try simp only [pls]
 refine wpAnyH_ready (rs := [5]) (by kernel_rfl) (by simp) ?_
 refine AllReadyH.cons rfl (fun K hK => ?_) AllReadyH.nil
 go_simp
 refine hK.out _ _ (⟨zK P0 _, zK P1 _⟩) (fun hHeld => ?_)
 clear hK K
 try simp only [pls]
 refine tkh 6 ?_ rfl (by kernel_rfl) (fun _ _ _ h => h) ?_ (by assumption) ?_
 rotate_left
 ·intro w hSw; skip; (try clear hSw); go_simp; (try with_reducible rfl)
 try simp only [pls]
 refine wpAnyH_done (by kernel_rfl) ?_ _
 go_wp2_with fail
 go_ret
 obtain ⟨lv, ⟨mv3, mk3⟩, fl3, nx3⟩ := (zy I2).more (Below.new1 (.cells #[.slice ya (jW r.2 (2, [], (nn : Int))).length yc, .slice none 0 0] 46))
 exact ⟨_, rfl, AltV.two (Kp.weak _ (fun _ h => h)) (lv.symsN nx3 (zy HDD)) (SymsV.none _ _) (heap_alloc_new _ _) (zy HDD _ s2), ⟨mv3, mk3.weak (fun g _ hd => hd.1)⟩, fl3, by simp⟩
theorem fopt_l {ns : List (List Int)} {n : Nat} {d : Int} (HP : Yj ns n d) : AtC ns n d 134 (fun p nn s => ((xV (zX ns n d) p s).1, [(xV (zX ns n d) p s).2, []])) := by
 intro D w B b m s pv p nn hB hD h hp hs
 obtain ⟨mv, hm⟩ := h
 have B2 : ∀ o1 o2, Below w.heap.size w ((w.alloc o1).alloc o2) := fun o1 o2 => (Below.new1 o1).alloc (by simp) o2
 have CO := zx (fun W (bW : Below w.heap.size w W) => fonly_l HP pv p (by have := bW.size; omega) (fun k hk => hD k (by have := bW.size; omega)) ⟨mv, hm.later bW⟩ (PartB.kept (fun g hg => ⟨hg, bW.block g (by omega)⟩) (KR.of bW) (n + 1) _ p hp) hs)
 obtain ⟨k, S, a1, n1, c1, a2, n2, c2, q, rfl, -, -⟩ := jz hp
 have HDD := zx hD
 have hlt := hm.lt
 have HLT := zx hB
 clear hm hp hs hD
 dsimp only
 generalize xV (zX ns n d) p s = r at *
 go_enter Tryz.func134, Tryz.ntmps134
 go_wp2_with fail
 refine (zy CO _ (B2 _ _)).mono ?_
 clear CO
 rintro e w1 ⟨v1, rfl, lv1, ⟨mv1, mk1⟩, fl1, nx1⟩
 have FW := zx ((Fl.of (x := none) (b := b) (B := B) (B2 (.cells #[.int .i64 k, .string S, .slice a1 n1 c1, .slice a2 n2 c2, .int .i64 q] 40) (.cells #[.int .i64 2, .slice none 0 0, .int .i64 (nn : Int)] 64))).then fl1 (fun g e => by cases e))
 have s1 := (zy FW).size
 have I1 := zx (show InvL D B b m ns d (.slice none 0 0) w r.1 v1 r.2 w1 from ⟨lv1, ⟨mv1, mk1⟩, zy FW, fun g hg => by
  rcases nx1 g hg with c | c
  ·exact .inl c
  ·exact .inr (Nat.le_trans (by simp; omega) c)⟩)
 obtain ⟨ya, yc, rfl⟩ := lv1.form
 clear lv1 mk1 nx1 fl1
 go_wp2_with fail
 go_ret
 obtain ⟨lv, ⟨mv3, mk3⟩, fl3, nx3⟩ := (zy I1).more (Below.new1 (.cells #[.slice ya r.2.length yc, .slice none 0 0] 46))
 exact ⟨_, rfl, AltV.two (Kp.weak _ (fun _ h => h)) (lv.symsN nx3 (zy HDD)) (SymsV.none _ _) (heap_alloc_new _ _) (zy HDD _ s1), ⟨mv3, mk3.weak (fun g _ hd => hd.1)⟩, fl3, by simp⟩
theorem own_weak {w : World} {B B' : Nat} {t : TypeId} {sz : Nat} {v : Value} {n : Nat} {cs : List Value} (h : w.ownsRow B t sz v n cs) (hB : B' ≤ B) : w.ownsRow B' t sz v n cs := by
 refine ⟨h.1, ?_⟩
 rcases h.2 with e | ⟨g, cap, cur, e, hb, rest⟩
 ·exact .inl e
 ·exact .inr ⟨g, cap, cur, e, Nat.le_trans hB hb, rest⟩
theorem LV.lower {w : World} {B B' : Nat} {v : Value} {l : List SY} (h : LV w B v l) (hB : B' ≤ B) : LV w B' v l := by
 obtain ⟨h1, cs, own, hs⟩ := h
 exact ⟨h1, cs, own_weak own hB, hs⟩
theorem fplus_l {ns : List (List Int)} {n : Nat} {d : Int} (HP : Yj ns n d) (HS : ∀ p s, smP (n + 1) p → smS (xV (zX ns n d) p s).2) : AtC ns n d 133 (fun p nn s => ((xV (zX ns n d) p s).1, [jW (xV (zX ns n d) p s).2 (2, [], (nn : Int)), (xV (zX ns n d) p s).2])) := by
 intro D w B b m s pv p nn hB hD h hp hs
 obtain ⟨mv, hm⟩ := h
 have B2 : ∀ o1 o2, Below w.heap.size w ((w.alloc o1).alloc o2) := fun o1 o2 => (Below.new1 o1).alloc (by simp) o2
 have CO := zx (fun W (bW : Below w.heap.size w W) => fonly_l HP pv p (by have := bW.size; omega) (fun k hk => hD k (by have := bW.size; omega)) ⟨mv, hm.later bW⟩ (PartB.kept (fun g hg => ⟨hg, bW.block g (by omega)⟩) (KR.of bW) (n + 1) _ p hp) hs)
 obtain ⟨k, S, a1, n1, c1, a2, n2, c2, q, rfl, -, -⟩ := jz hp
 have HSM := zx (HS p s hs)
 have HDD := zx hD
 have hlt := hm.lt
 have HLT := zx hB
 clear hm hp hs hD HS
 dsimp only
 generalize xV (zX ns n d) p s = r at *
 go_enter Tryz.func133, Tryz.ntmps133
 go_wp2_with fail
 have P0 : ((w.alloc (.cells #[.int .i64 k, .string S, .slice a1 n1 c1, .slice a2 n2 c2, .int .i64 q] 40)).alloc (.cells #[.int .i64 2, .slice none 0 0, .int .i64 (nn : Int)] 64)).heap[w.heap.size]? = some (.cells #[.int .i64 k, .string S, .slice a1 n1 c1, .slice a2 n2 c2, .int .i64 q] 40) := zK (heap_alloc_new _ _) _
 have P1 : ((w.alloc (.cells #[.int .i64 k, .string S, .slice a1 n1 c1, .slice a2 n2 c2, .int .i64 q] 40)).alloc (.cells #[.int .i64 2, .slice none 0 0, .int .i64 (nn : Int)] 64)).heap[w.heap.size + 1]? = some (.cells #[.int .i64 2, .slice none 0 0, .int .i64 (nn : Int)] 64) := by have := heap_alloc_new (w.alloc (.cells #[.int .i64 k, .string S, .slice a1 n1 c1, .slice a2 n2 c2, .int .i64 q] 40)) (.cells #[.int .i64 2, .slice none 0 0, .int .i64 (nn : Int)] 64); simpa using this
 have BW : Below w.heap.size w ((w.alloc (.cells #[.int .i64 k, .string S, .slice a1 n1 c1, .slice a2 n2 c2, .int .i64 q] 40)).alloc (.cells #[.int .i64 2, .slice none 0 0, .int .i64 (nn : Int)] 64)) := B2 _ _
 have sW : ((w.alloc (.cells #[.int .i64 k, .string S, .slice a1 n1 c1, .slice a2 n2 c2, .int .i64 q] 40)).alloc (.cells #[.int .i64 2, .slice none 0 0, .int .i64 (nn : Int)] 64)).heap.size = w.heap.size + 2 := by simp
 generalize ((w.alloc (.cells #[.int .i64 k, .string S, .slice a1 n1 c1, .slice a2 n2 c2, .int .i64 q] 40)).alloc (.cells #[.int .i64 2, .slice none 0 0, .int .i64 (nn : Int)] 64)) = WW at *
 refine (zy CO _ BW).mono ?_
 clear CO
 rintro e w1 ⟨v1, rfl, lv1, ⟨mv1, mk1⟩, fl1, nx1⟩
 have P1 : w1.heap[w.heap.size + 1]? = some (.cells #[.int .i64 2, .slice none 0 0, .int .i64 (nn : Int)] 64) := fl1.block _ _ P1 (by omega) (by simp [Value.ownBlock]) (fun cs fr e => by injection e with _ e; exact absurd e (by decide))
 have FW := zx ((Fl.of (x := none) (b := b) (B := B) BW).then fl1 (fun g e => by cases e))
 have s1 := (zy FW).size
 have hw1 : w.heap.size + 1 < w1.heap.size := (Array.getElem?_eq_some_iff.1 P1).1
 have HP1 := zx P1
 have CC := zx (fun W (bW : Below w1.heap.size w1 W) => copied_l v1 r.2 W (lv1.later bW) (zy HSM))
 have I1 := zx (show InvL D B b m ns d (.slice none 0 0) w r.1 v1 r.2 w1 from ⟨lv1, ⟨mv1, mk1⟩, zy FW, fun g hg => by
  rcases nx1 g hg with c | c
  ·exact .inl c
  ·exact .inr (by omega)⟩)
 obtain ⟨xa, xc, rfl⟩ := lv1.form
 clear lv1 mk1 nx1 fl1
 go_wp2_with fail
 refine wp_region_held_drew (S := (fun w' => w'.heap[w.heap.size + 1]? = some (.cells #[.int .i64 2, .slice none 0 0, .int .i64 (nn : Int)] 64))) (by kernel_rfl) (P1) (fun hHeld => ?_)
 refine tkh 0 ?_ rfl (by kernel_rfl) (fun _ _ _ h => h) ?_ (by assumption) ?_
 rotate_left
 ·intro w hSw; obtain ⟨⟨z0, z1, z2⟩, -⟩ := qZ hSw; (try clear hSw); go_simp; (try with_reducible rfl)
 try simp only [pls]
 refine tkh 2 ?_ rfl (by kernel_rfl) (fun _ _ _ h => h) ?_ (by assumption) ?_
 rotate_left
 ·intro w hSw; obtain ⟨⟨z0, z1, z2⟩, -⟩ := qZ hSw; (try clear hSw); go_simp; (try with_reducible rfl)
 try simp only [pls]
 refine tkh 4 ?_ rfl (by kernel_rfl) (fun _ _ _ h => h) ?_ (by assumption) ?_
 rotate_left
 ·intro w hSw; obtain ⟨⟨z0, z1, z2⟩, -⟩ := qZ hSw; (try clear hSw); go_simp; (try with_reducible rfl)
 try simp only [pls]
 refine wpAnyH_ready (rs := [1]) (by kernel_rfl) (by simp) ?_
 refine AllReadyH.cons rfl (fun K hK => ?_) AllReadyH.nil
 go_simp
 refine (zy CC _ zk).mono ?_
 clear CC
 rintro e w2 ⟨v2, rfl, lv2, b2⟩
 have b2 : Below w1.heap.size w1 w2 := zw (w1 := w1.drew) (zk (k := 1)) b2
 have sD : w1.drew.heap.size = w1.heap.size := rfl
 have s2 := b2.size
 have P1 : w2.heap[w.heap.size + 1]? = some (.cells #[.int .i64 2, .slice none 0 0, .int .i64 (nn : Int)] 64) := (b2.block _ hw1).trans P1
 have CP := zx (fput_l (lv2.lower (show B ≤ w1.drew.heap.size from Nat.le_trans (zy HLT) s1)) (Nat.le_trans (zy HLT) (Nat.le_trans s1 s2)) 2 (nn : Int) [] none 0 (Rs.nil w2) (Ty.nil w2))
 simp only [List.length_nil] at CP
 have HLV2 := zx lv2
 have HB2 := zx b2
 obtain ⟨ya, yc, rfl⟩ := lv2.form
 clear lv2 b2
 go_wp2_with fail
 refine hK.out _ _ (P1) (fun hHeld => ?_)
 clear hK K
 try simp only [pls]
 refine wpAnyH_ready (rs := [3]) (by kernel_rfl) (by simp) ?_
 refine AllReadyH.cons rfl (fun K hK => ?_) AllReadyH.nil
 go_simp
 refine (zy CP).mono ?_
 clear CP
 rintro e w3 ⟨v3, rfl, lv3, gr3, nx3, kr3⟩
 have b3 : Below w1.heap.size w1 w3 := (zy HB2).grown gr3 s2 (fun k hk => ((zy HLV2).lt k hk).1)
 have P1 : w3.heap[w.heap.size + 1]? = some (.cells #[.int .i64 2, .slice none 0 0, .int .i64 (nn : Int)] 64) := (b3.block _ hw1).trans (show w1.heap[w.heap.size + 1]? = some (.cells #[.int .i64 2, .slice none 0 0, .int .i64 (nn : Int)] 64) from zy HP1)
 have I3 := zx ((zy I1).more b3)
 have V3 : SymsV D w3 v3 (jW r.2 (2, [], (nn : Int))) := lv3.syms (fun g hg => by
   rcases nx3 g hg with c | c
   ·exact zy HDD g (Nat.le_trans s1 ((zy HLV2).lt g c).1)
   ·exact zy HDD g (Nat.le_trans s1 (Nat.le_trans s2 c)))
 have HV3 := zx V3
 have s3 := gr3.size
 obtain ⟨za, zc, rfl⟩ := lv3.form
 clear lv3 gr3 nx3 kr3 b3 V3 I1 HLV2 HB2
 go_wp2_with fail
 refine hK.out _ _ (P1) (fun hHeld => ?_)
 clear hK K
 try simp only [pls]
 refine wpAnyH_ready (rs := [5]) (by kernel_rfl) (by simp) ?_
 refine AllReadyH.cons rfl (fun K hK => ?_) AllReadyH.nil
 go_simp
 refine hK.out _ _ (zK P1 _) (fun hHeld => ?_)
 clear hK K
 try simp only [pls]
 refine tkh 6 ?_ rfl (by kernel_rfl) (fun _ _ _ h => h) ?_ (by assumption) ?_
 rotate_left
 ·intro w hSw; skip; (try clear hSw); go_simp; (try with_reducible rfl)
 try simp only [pls]
 refine wpAnyH_done (by kernel_rfl) ?_ _
 go_wp2_with fail
 go_ret
 have BN := Below.new1 (w := w3) (.cells #[.slice za (jW r.2 (2, [], (nn : Int))).length zc, .slice xa r.2.length xc] 46)
 obtain ⟨lv, ⟨mv3, mk3⟩, fl3, nx3⟩ := (zy I3).more BN
 exact ⟨_, rfl, AltV.two (Kp.weak _ (fun _ h => h)) ((zy HV3).kp (Kp.of BN)) (lv.symsN nx3 (zy HDD)) (heap_alloc_new _ _) (zy HDD _ (Nat.le_trans s1 (Nat.le_trans s2 s3))), ⟨mv3, mk3.weak (fun g _ hd => hd.1)⟩, fl3, by simp⟩
end Go.Proofs.YtnfgobgflcmepaaGreatDoor.F
namespace Go.Proofs.YtnfgobgflcmepaaGreatDoor.F
open Go.Proofs.YtnfgobgflcmepaaGreatDoor.T Go.Proofs.YtnfgobgflcmepaaGreatDoor.R
theorem stop_len (s : Mk) (q y : Int) : (s.stop q y).made.length = s.made.length := by unfold Mk.stop; split <;> rfl
theorem fin_len (s : Mk) (n : Nat) (q : Int) (A : List (List SY)) : (s.fin n q A).made.length = s.made.length := by
 unfold Mk.fin
 split
 ·simp [setA_len]
 ·simp [setA_len, stop_len]
def Mono (f : PF) : Prop := ∀ m l p, m.made.length ≤ (f m l p).1.made.length ∧ (m.made.length ≤ 60 → (f m l p).1.made.length ≤ 60)
theorem call_mono (ns : List (List Int)) : Mono (callS ns) := by
 intro m l p
 unfold callS
 split
 ·exact ⟨Nat.le_refl _, id⟩
 ·simp [stop_len]
theorem seq_mono {f : PF} (hf : Mono f) : ∀ (ps : List PT) (m : Mk) (l : List SY), m.made.length ≤ (Za f ps m l).1.made.length ∧ (m.made.length ≤ 60 → (Za f ps m l).1.made.length ≤ 60) := by
 intro ps
 induction ps with
 | nil => intro m l; exact ⟨Nat.le_refl _, id⟩
 | cons p ps ih =>
  intro m l
  unfold Za
  split
  ·exact ⟨Nat.le_refl _, id⟩
  ·have h1 := hf m l p
   have h2 := ih (f m l p).1 (f m l p).2
   exact ⟨Nat.le_trans h1.1 h2.1, fun h => h2.2 (h1.2 h)⟩
theorem each_mono {f : PF} (hf : Mono f) : ∀ (ps : List PT) (m : Mk) (a : List (List SY)), m.made.length ≤ (qu f ps m a).1.made.length ∧ (m.made.length ≤ 60 → (qu f ps m a).1.made.length ≤ 60) := by
 intro ps
 induction ps with
 | nil => intro m a; exact ⟨Nat.le_refl _, id⟩
 | cons p ps ih =>
  intro m a
  unfold qu
  split
  ·exact ⟨Nat.le_refl _, id⟩
  ·have h1 := hf m [] p
   have h2 := ih (f m [] p).1 (if a.length ≤ 8 then a ++ [(f m [] p).2] else a)
   exact ⟨Nat.le_trans h1.1 h2.1, fun h => h2.2 (h1.2 h)⟩
theorem only_mono {f : PF} (hf : Mono f) (p : PT) (m : Mk) : m.made.length ≤ (xV f p m).1.made.length ∧ (m.made.length ≤ 60 → (xV f p m).1.made.length ≤ 60) := by
 unfold xV
 split
 ·exact hf m [] _
 ·simp [stop_len]
theorem alts_mono {f : PF} (hf : Mono f) (p : PT) (n : Nat) (m : Mk) : m.made.length ≤ (ke f p n m).1.made.length ∧ (m.made.length ≤ 60 → (ke f p n m).1.made.length ≤ 60) := by
 unfold ke
 split
 ·exact each_mono hf _ _ _
 ·split
  ·exact only_mono hf p m
  ·split
   ·exact only_mono hf p m
   ·exact only_mono hf p m
theorem anew_mono {f : PF} (hf : Mono f) : Mono (kw f) := by
 intro m l p
 unfold kw
 split
 ·simp [stop_len]
 ·rename_i h60
  have h := alts_mono hf p m.made.length ⟨m.made ++ [([], 0, [])], m.left, m.pl, m.why⟩
  simp only [List.length_append, List.length_cons, List.length_nil, Nat.zero_add] at h
  simp only [fin_len]
  exact ⟨by omega, fun h6 => h.2 (by omega)⟩
theorem way_mono (ns : List (List Int)) {f : PF} (hf : Mono f) : Mono (jo ns f) := by
 intro m l p
 unfold jo
 split
 ·exact call_mono ns m l p
 ·split
  ·exact ⟨Nat.le_refl _, id⟩
  ·split
   ·exact ⟨Nat.le_refl _, id⟩
   ·split
    ·exact ⟨Nat.le_refl _, id⟩
    ·split
     ·exact seq_mono hf _ _ _
     ·exact anew_mono hf m l p
theorem part_mono (ns : List (List Int)) : ∀ (n : Nat) (d : Int), Mono (zX ns n d) := by
 intro n
 induction n with
 | zero => intro d m l p; exact ⟨Nat.le_refl _, id⟩
 | succ n ih =>
  intro d m l p
  unfold zX
  split
  ·simp [stop_len]
  ·exact way_mono ns (ih (d + 1)) ⟨m.made, m.left - 1, m.pl, m.why⟩ l p
def Sm (n : Nat) (f : PF) : Prop := ∀ m l p, smP n p → smS l → smS (f m l p).2
theorem put_sm {l : List SY} (h : smS l) {s : SY} (hs : s.2.1.length ≤ 1000000) : smS (jW l s) := by
 unfold jW
 split
 ·exact h
 ·intro x hx
  rcases List.mem_append.1 hx with c | c
  ·exact h x c
  ·simp at c; subst c; exact hs
theorem text_sm : ∀ (t : List Int) (l : List SY), smS l → smS (vY t l) := by
 intro t
 induction t with
 | nil => intro l h; exact h
 | cons c t ih =>
  intro l h
  unfold vY
  split
  ·exact h
  ·exact ih _ (put_sm h (by simp))
theorem seq_sm {n : Nat} {f : PF} (hf : Sm n f) : ∀ (ps : List PT) (m : Mk) (l : List SY), (∀ x ∈ ps, smP n x) → smS l → smS (Za f ps m l).2 := by
 intro ps
 induction ps with
 | nil => intro m l _ h; exact h
 | cons p ps ih =>
  intro m l hp h
  unfold Za
  split
  ·exact h
  ·exact ih _ _ (fun x hx => hp x (List.mem_cons_of_mem _ hx)) (hf m l p (hp p (List.mem_cons_self ..)) h)
theorem nil_sm : smS [] := fun s h => by cases h
theorem way_sm (ns : List (List Int)) {n : Nat} {f : PF} (hf : Sm n f) : Sm (n + 1) (jo ns f) := by
 intro m l p hp hl
 obtain ⟨h1, h2, h3, h4⟩ := hp
 unfold jo
 split
 ·unfold callS
  split
  ·exact put_sm hl (by simp)
  ·exact put_sm hl (by simp)
 ·split
  ·exact text_sm _ _ hl
  ·split
   ·exact put_sm hl h2
   ·split
    ·exact put_sm hl h2
    ·split
     ·exact seq_sm hf _ _ _ h4 hl
     ·unfold kw
      split
      ·exact hl
      ·exact put_sm hl (by simp)
theorem part_sm (ns : List (List Int)) : ∀ (n : Nat) (d : Int), Sm n (zX ns n d) := by
 intro n
 induction n with
 | zero => intro d m l p _ h; exact h
 | succ n ih =>
  intro d m l p hp h
  unfold zX
  split
  ·exact h
  ·exact way_sm ns (ih (d + 1)) _ l p hp h
theorem only_sm (ns : List (List Int)) (n : Nat) (d : Int) (p : PT) (m : Mk) (h : smP (n + 1) p) : smS (xV (zX ns n d) p m).2 := by
 unfold xV
 split
 ·rename_i x e
  exact part_sm ns n d m [] x (h.2.2.2 x (by rw [e]; simp)) nil_sm
 ·exact nil_sm
end Go.Proofs.YtnfgobgflcmepaaGreatDoor.F
namespace Go.Proofs.YtnfgobgflcmepaaGreatDoor.F
open Go.RowKit Go.Proofs.YtnfgobgflcmepaaGreatDoor.T Go.Proofs.YtnfgobgflcmepaaGreatDoor.R
theorem prod_info : (Tryz.prog.info? 45).map (fun i => (i.zero, i.size, i.bytes)) = some (some (.agg #[.slice none 0 0, .int .i64 0, .slice none 0 0]), 3, 56) := by kernel_rfl
theorem new_prod (w : World) (n : Nat) (x0 x1 x2 : Value) (hn : n = w.heap.size) : ∀ (j : Nat) (u : Value), [x0, x1, x2][j]? = some u → (w.alloc (.cells #[x0, x1, x2] 45)).cell? ((⟨n, 0, none⟩ : Addr).add j) = some u := by
 subst hn
 exact World.news_of_block (cs := #[x0, x1, x2]) (t := 45) (fr := (0, 0)) (heap_alloc_new w _)
theorem AltV.none (D : Nat → Prop) (w : World) : AltV D w (.slice none 0 0) [] := ⟨_, 0, [], rfl, ⟨Nat.le_refl _, Nat.zero_le _, .inl rfl⟩, rfl⟩
theorem NotV.none (w : World) : NotV w (.slice none 0 0) [] := ⟨_, 0, rfl, Rs.nil w, Ty.nil w⟩
theorem MakV.grow {D : Nat → Prop} {w W X : World} {B b m : Nat} {ns : List (List Int)} {d : Int} {v : Value} {s : Mk} (h : MakV D w B b m ns d v s) (k : Below w.heap.size w W) (h60 : s.made.length < 60) {cs : List Value} (hp : PrC D w s.made cs) {p : PRD} {c0 c2 : Value} (ha : AltV D W c0 p.1) (hn : NotV W c2 p.2.2) {gg cap : Nat}
  (own : X.ownsRow B 45 3 (.slice (some ⟨gg, 0, none⟩) (s.made.length + 1) cap) (s.made.length + 1) (cs ++ [c0, .int .i64 p.2.1, c2])) (hg : W.grownBy X v.ownBlock) (hgg : v.ownBlock = some gg ∨ gg = W.heap.size) :
  MakV D (X.setCell ⟨b, 0, none⟩ (.slice (some ⟨gg, 0, none⟩) (s.made.length + 1) cap)) B b m ns d (.slice (some ⟨gg, 0, none⟩) (s.made.length + 1) cap) ⟨s.made ++ [p], s.left, s.pl, s.why⟩ ∧ Fl B b none w (X.setCell ⟨b, 0, none⟩ (.slice (some ⟨gg, 0, none⟩) (s.made.length + 1) cap)) := by
 have hW := h.later k
 have f1 : Fl B b none W X := Fl.grownP hg (fun k hk => hW.made.block k hk)
 have f2 : Fl B b none w X := (Fl.of k).then f1 (fun g e => by cases e)
 have hbX : X.heap[b]? = some (.cells (qk v m b d s) 84) := by
  rw [hg.block b hW.lt (fun e => hW.made_ne b e.symm rfl)]; exact hW.cells
 have kX : KR W X := f1.kr hW.cells (Zk _)
 have hc := heap_setCell_same X b 0 _ _ (.slice (some ⟨gg, 0, none⟩) (s.made.length + 1) cap) hbX
 have f3 : Fl B b none w (X.setCell ⟨b, 0, none⟩ (.slice (some ⟨gg, 0, none⟩) (s.made.length + 1) cap)) := f2.then (Fl.set (x := none) X h.hB 0 _) (fun g e => by cases e)
 have kp : Kp D D w (X.setCell ⟨b, 0, none⟩ (.slice (some ⟨gg, 0, none⟩) (s.made.length + 1) cap)) := f3.kp h.cells (Zk w) (no_d w)
 have kpW : Kp D D W (X.setCell ⟨b, 0, none⟩ (.slice (some ⟨gg, 0, none⟩) (s.made.length + 1) cap)) := (f1.then (Fl.set (x := none) X h.hB 0 _) (fun g e => by cases e)).kp hW.cells (Zk _) (no_d _)
 have hgb : gg ≠ b := by
  intro e
  rcases hgg with c | c
  ·exact hW.made_ne gg c e
  ·have := hW.lt; omega
 refine ⟨⟨h.hB, h.hm, h.d0, h.l0, ?_, ⟨by simp; omega, cs ++ [c0, .int .i64 p.2.1, c2], ?_, ?_⟩, h.names.keep (fun o ho hno => ?_)⟩, f3⟩
 ·rw [hc]; simp [qk]
 ·rw [List.length_append]
  refine Zi own (fun g o hg ho => ?_)
  simp only [Value.ownBlock, Option.some.injEq] at hg
  subst hg
  exact zj ho hgb _
 ·exact PrC.snoc (ha.kp kpW) (hn.kr kpW.1) _ _ (PrC.kp kp _ _ hp)
 ·refine f3.block m o ho (fun c => ?_) (by simp) (fun cs' fr => hno _ _ _)
  subst c; rw [h.cells] at ho; injection ho with ho; exact hno _ _ _ ho.symm
theorem anew_full {f : PF} {m : Mk} {l : List SY} {p : PT} (h : m.made.length = 60) : kw f m l p = (m.stop (atP p) 7, l) := by unfold kw; rw [if_pos h]
theorem anew_on {f : PF} {m : Mk} {l : List SY} {p : PT} (h : m.made.length ≠ 60) : kw f m l p = (((ke f p m.made.length ⟨m.made ++ [([], 0, [])], m.left, m.pl, m.why⟩).1).fin m.made.length (atP p) (ke f p m.made.length ⟨m.made ++ [([], 0, [])], m.left, m.pl, m.why⟩).2, jW l (2, [], (m.made.length : Int))) := by unfold kw; rw [if_neg h]
theorem LV.dv {D : Nat → Prop} {w : World} {B : Nat} {v : Value} {l : List SY} (h : LV w B v l) (hD : ∀ k, w.heap.size ≤ k → D k) : ∀ k, w.heap.size ≤ k → D k ∧ some k ≠ v.ownBlock := fun k hk => ⟨hD k hk, fun e => by
 have := (h.lt k e.symm).2; omega⟩
theorem qV {f : FuncId} {fn : Func} {c : Code} (hf : Tryz.prog.funcs[f]? = some fn) (hname : (fn.name == "runtime.NumGoroutine") = false) (hb : fn.body = some c) (args : Array Value) (w : World) : (callFunc f args).run Tryz.prog w = .ok (.enter f args) w := by
 have h1 : fn.name ≠ "runtime.NumGoroutine" := by simpa using hname
 simp [callFunc, hf, h1, hb]
theorem fanew_l {ns : List (List Int)} {n : Nat} {d : Int} (F : Nat) (HE : ∀ args W, (callFunc F args).run Tryz.prog W = .ok (.enter F args) W) {AG : PT → Nat → Mk → Mk × List (List SY)} (HA : AtC ns n d F AG) {D : Nat → Prop} {w : World} {B b m : Nat} {s : Mk} {v : Value} {l : List SY} (pv : Value) (p : PT) (hB : B ≤ w.heap.size) (hD : ∀ k, w.heap.size ≤ k → D k) (h : Mak (fun k => D k ∧ some k ≠ v.ownBlock) w B b m ns d s) (hL : LV w B v l) (hp : PartB B (n + 1) w pv p) (hs : smP (n + 1) p) (hG : ∀ nn s, AG p nn s = ke (zX ns n d) p nn s) :
  Calls Tryz.prog 130 #[.pointer (some ⟨b, 0, none⟩), v, pv, .func (.func F) #[.pointer (some ⟨b, 0, none⟩)] #[]] w (LfR D B b m ns d v w (kw (zX ns n d) s l p)) := by
 obtain ⟨mv, hm⟩ := h
 have B1 : ∀ o, Below w.heap.size w (w.alloc o) := fun o => Below.new1 o
 have h60 := hm.made.1
 obtain ⟨ma, mc, rfl⟩ := hm.made.form
 have hlt := hm.lt
 have MB := zx hm.blk
 have HM := zx hm
 have HL := zx hL
 have HDV := zx (hL.dv hD)
 have HP := zx hp
 have HSP := zx hs
 have HBB := zx hB
 have CC0 : ∀ o, (w.alloc o).cell? ⟨b, 0, none⟩ = some (.slice ma s.made.length mc) := fun o => (yK (hm.later (B1 o)).cells).1
 have CS := zx (fun W (bW : Below w.heap.size w W) q => YJ (hm.later bW) q 7)
 obtain ⟨k, S, a1, n1, c1, a2, n2, c2, q, rfl, hk, hq⟩ := jz hp
 obtain ⟨la, lc, rfl⟩ := hL.form
 by_cases hf : s.made.length = 60
 ·have FIN : Hid (kw (zX ns n d) s l p = (s.stop q 7, l)) := by show _ = _; rw [hq]; exact anew_full hf
  have hbb : ((s.made.length : Int) == 60) = true := by rw [hf]; rfl
  clear hm hL hp hs hD hf h60 hk hq
  generalize s.made.length = nm at *
  go_enter Tryz.func130, Tryz.ntmps130
  go_wp2_with fail
  refine (zy CS _ (B1 _) _).mono ?_
  rintro e w2 ⟨rfl, hm2, f2⟩
  have FW : Fl B b none w w2 := (Fl.of (B1 _)).then f2 (fun g e => by cases e)
  have HFW := zx FW
  have HM2 := zx hm2
  clear CS hm2 f2 FW
  go_wp2_with fail
  go_ret
  rw [zy FIN]
  obtain ⟨bc, bf, hb⟩ := zy MB
  exact ⟨_, rfl, (zy HL).fl (zy HFW) hb (Zk _) (fun g _ e => by cases e), ⟨_, zy HM2⟩, (zy HFW).none, Nx.refl _ _⟩
 ·have hbb : ((s.made.length : Int) == 60) = false := by rw [beq_eq_false_iff_ne]; omega
  have FIN : Hid (kw (zX ns n d) s l p = (((ke (zX ns n d) p s.made.length ⟨s.made ++ [([], 0, [])], s.left, s.pl, s.why⟩).1).fin s.made.length q (ke (zX ns n d) p s.made.length ⟨s.made ++ [([], 0, [])], s.left, s.pl, s.why⟩).2, jW l (2, [], (s.made.length : Int)))) := by show _ = _; rw [hq]; exact anew_on hf
  have h59 : s.made.length < 60 := by omega
  obtain ⟨-, cs, HO, hpr⟩ := id hm.made
  have HPR := zx hpr
  obtain ⟨ti, hi0, hz0, hz1, hz2⟩ := info_parts prod_info
  have MON := zx (alts_mono (part_mono ns n d) p s.made.length ⟨s.made ++ [([], 0, [])], s.left, s.pl, s.why⟩).1
  have HAA := zx HA
  clear hm hL hp hs hD hf h60 hk hq CS HA hpr
  have BX : ∀ o1 o2, Below w.heap.size w ((w.alloc o1).alloc o2) := fun o1 o2 => (B1 o1).alloc (by simp) o2
  go_enter Tryz.func130, Tryz.ntmps130
  go_wp2_with (at_builtin; refine wpList_append_lies _ rfl _ _ 30 rfl B 45 ti _ 3 56 Tryz.underlying30 hi0 hz0 hz1 hz2 rfl (by omega) _ _ _ rfl ((HO.alloc _).alloc _) ⟨w.heap.size + 1, 0, none⟩ 1 1 [.slice none 0 0, .int .i64 0, .slice none 0 0] rfl rfl (new_prod _ _ _ _ _ (by simp)) (by simp [Value.oneCell']) (by omega) (by unfold maxLen; omega) (by omega) (by simp; omega) (w.heap.size + 2) (by simp) ?_; intro gg cap1 w6 hown1 hgrow hat hlt1; have hb6 : w6.heap[b]? = some (.cells (qk (.slice ma s.made.length mc) m b d s) 84) := (hgrow.block b (by simp <;> omega) (fun e => (zy HM).made_ne b e.symm rfl)).trans (zK (zK (zy HM).cells _) _); obtain ⟨u0, -, -, -, -, -, z0, -, -, -, -⟩ := yK hb6; have s6 := hgrow.size; have hb6l : b < w6.heap.size := (Array.getElem?_eq_some_iff.1 hb6).1; have P0 : w6.heap[w.heap.size]? = some (.cells #[.int .i64 k, .string S, .slice a1 n1 c1, .slice a2 n2 c2, .int .i64 q] 40) := (hgrow.block _ (by simp <;> omega) (fun e => by have := (HO.lt _ e.symm).2; omega)).trans (zK (heap_alloc_new w _) _); have MG := zx ((zy HM).grow (BX (.cells #[.int .i64 k, .string S, .slice a1 n1 c1, .slice a2 n2 c2, .int .i64 q] 40) (.cells #[.slice none 0 0, .int .i64 0, .slice none 0 0] 45)) h59 (zy HPR) (p := ([], 0, [])) (AltV.none _ _) (NotV.none _) hown1 hgrow (by rcases hat with h | h; exact .inl h; exact .inr (by simp [h]))); have s6' : w.heap.size + 2 ≤ w6.heap.size := (by rw [World.size_alloc, World.size_alloc] at s6; exact s6); clear hb6 hown1 hgrow hat HO BX)
  -- the region that draws
  obtain ⟨mg, fg⟩ := zy MG
  have P0 : ((w6.setCell ⟨b, 0, none⟩ (.slice (some ⟨gg, 0, none⟩) (s.made.length + 1) cap1)).alloc (.cells #[.int .i64 2, .slice none 0 0, .int .i64 (s.made.length : Int)] 64)).heap[w.heap.size]? = some (.cells #[.int .i64 k, .string S, .slice a1 n1 c1, .slice a2 n2 c2, .int .i64 q] 40) := zK (zj P0 (by omega) _) _
  have P1 : ((w6.setCell ⟨b, 0, none⟩ (.slice (some ⟨gg, 0, none⟩) (s.made.length + 1) cap1)).alloc (.cells #[.int .i64 2, .slice none 0 0, .int .i64 (s.made.length : Int)] 64)).heap[w6.heap.size]? = some (.cells #[.int .i64 2, .slice none 0 0, .int .i64 (s.made.length : Int)] 64) := by have := heap_alloc_new (w6.setCell ⟨b, 0, none⟩ (.slice (some ⟨gg, 0, none⟩) (s.made.length + 1) cap1)) (.cells #[.int .i64 2, .slice none 0 0, .int .i64 (s.made.length : Int)] 64); simpa using this
  have sW : ((w6.setCell ⟨b, 0, none⟩ (.slice (some ⟨gg, 0, none⟩) (s.made.length + 1) cap1)).alloc (.cells #[.int .i64 2, .slice none 0 0, .int .i64 (s.made.length : Int)] 64)).heap.size = w6.heap.size + 1 := by simp
  have MW := mg.later (Below.new1 (.cells #[.int .i64 2, .slice none 0 0, .int .i64 (s.made.length : Int)] 64))
  have FW := fg.then (Fl.of (x := none) (Below.new1 (.cells #[.int .i64 2, .slice none 0 0, .int .i64 (s.made.length : Int)] 64))) (fun g e => by cases e)
  clear MG mg fg u0 z0
  generalize ((w6.setCell ⟨b, 0, none⟩ (.slice (some ⟨gg, 0, none⟩) (s.made.length + 1) cap1)).alloc (.cells #[.int .i64 2, .slice none 0 0, .int .i64 (s.made.length : Int)] 64)) = WW at *
  obtain ⟨bc, bf, hb⟩ := zy MB
  have LW := zx ((zy HL).fl FW hb (Zk _) (fun g _ e => by cases e))
  have PW := zx (PartB.fl FW hb (Zk _) (zy HBB) (zy HP))
  have CA := zx (fun W (bW : Below WW.heap.size WW W) => zy HAA _ W B b m _ _ p s.made.length (Nat.le_trans (zy HBB) (Nat.le_trans FW.size bW.size)) (fun k hk => zy HDV k (Nat.le_trans FW.size (Nat.le_trans bW.size hk))) ⟨_, MW.later bW⟩ (PartB.kept (fun g hg => ⟨hg, bW.block g (Nat.lt_of_lt_of_le hg (Nat.le_trans (zy HBB) FW.size))⟩) (KR.of bW) (n + 1) _ p (zy PW)) (zy HSP))
  rw [hG] at CA
  generalize hr : ke (zX ns n d) p s.made.length ⟨s.made ++ [([], 0, [])], s.left, s.pl, s.why⟩ = r at *
  have hn8 : s.made.length < r.1.made.length := by have := zy MON; simp at this; omega
  have HFW := zx FW
  have HMW := zx MW.cells
  clear MW FW hr MON HAA
  refine wp_region_held_drew (S := (fun w' => w'.heap[w.heap.size]? = some (.cells #[.int .i64 k, .string S, .slice a1 n1 c1, .slice a2 n2 c2, .int .i64 q] 40) ∧ w'.heap[w6.heap.size]? = some (.cells #[.int .i64 2, .slice none 0 0, .int .i64 (s.made.length : Int)] 64))) (by kernel_rfl) (⟨P0, P1⟩) (fun hHeld => ?_)
  refine tkh 0 ?_ rfl (by kernel_rfl) (fun _ _ _ h => h) ?_ (by assumption) ?_
  rotate_left
  ·intro w hSw; obtain ⟨⟨y0, y1, y2, y3, y4⟩, -⟩ := yV hSw.1; obtain ⟨⟨x0, x1, x2⟩, -⟩ := qZ hSw.2; (try clear hSw); go_simp; (try with_reducible rfl)
  try simp only [pls]
  refine tkh 1 ?_ rfl (by kernel_rfl) (fun _ _ _ h => h) ?_ (by assumption) ?_
  rotate_left
  ·intro w hSw; obtain ⟨⟨y0, y1, y2, y3, y4⟩, -⟩ := yV hSw.1; obtain ⟨⟨x0, x1, x2⟩, -⟩ := qZ hSw.2; (try clear hSw); go_simp; (try with_reducible rfl)
  try simp only [pls]
  refine tkh 2 ?_ rfl (by kernel_rfl) (fun _ _ _ h => h) ?_ (by assumption) ?_
  rotate_left
  ·intro w hSw; obtain ⟨⟨y0, y1, y2, y3, y4⟩, -⟩ := yV hSw.1; obtain ⟨⟨x0, x1, x2⟩, -⟩ := qZ hSw.2; (try clear hSw); go_simp; (try with_reducible rfl)
  try simp only [pls]
  refine tkh 3 ?_ rfl (by kernel_rfl) (fun _ _ _ h => h) ?_ (by assumption) ?_
  rotate_left
  ·intro w hSw; obtain ⟨⟨y0, y1, y2, y3, y4⟩, -⟩ := yV hSw.1; obtain ⟨⟨x0, x1, x2⟩, -⟩ := qZ hSw.2; (try clear hSw); go_simp; (try with_reducible rfl)
  try simp only [pls]
  refine tkh 4 ?_ rfl (by kernel_rfl) (fun _ _ _ h => h) ?_ (by assumption) ?_
  rotate_left
  ·intro w hSw; obtain ⟨⟨y0, y1, y2, y3, y4⟩, -⟩ := yV hSw.1; obtain ⟨⟨x0, x1, x2⟩, -⟩ := qZ hSw.2; (try clear hSw); go_simp; (try with_reducible rfl)
  try simp only [pls]
  refine tkh 5 ?_ rfl (by kernel_rfl) (fun _ _ _ h => h) ?_ (by assumption) ?_
  rotate_left
  ·intro w hSw; obtain ⟨⟨y0, y1, y2, y3, y4⟩, -⟩ := yV hSw.1; obtain ⟨⟨x0, x1, x2⟩, -⟩ := qZ hSw.2; (try clear hSw); go_simp; (try with_reducible rfl)
  try simp only [pls]
  refine wpAnyH_ready (rs := [6]) (by kernel_rfl) (by simp) ?_
  refine AllReadyH.cons rfl (fun K hK => ?_) AllReadyH.nil
  go_simp
  refine (zy CA _ zk).mono ?_
  clear CA
  rintro e w8 ⟨av, rfl, alt8, ⟨mv8, mk8⟩, fl8, l9⟩
  have fl8 : Fl B b none WW w8 := (Fl.of (x := none) (zk (k := 1) (w := WW))).then fl8 (fun g e => by cases e)
  have P0 : w8.heap[w.heap.size]? = some (.cells #[.int .i64 k, .string S, .slice a1 n1 c1, .slice a2 n2 c2, .int .i64 q] 40) := fl8.block _ _ P0 (by omega) (by simp) (fun cs fr e => by injection e with _ e; exact absurd e (by decide))
  have P1 : w8.heap[w6.heap.size]? = some (.cells #[.int .i64 2, .slice none 0 0, .int .i64 (s.made.length : Int)] 64) := fl8.block _ _ P1 (by omega) (by simp) (fun cs fr e => by injection e with _ e; exact absurd e (by decide))
  have CF := zx (ffin_l mk8 s.made.length hn8 k S a1 n1 c1 a2 n2 c2 q av r.2 alt8 (Nat.le_trans l9 (by omega)))
  have HF8 := zx ((zy HFW).then fl8 (fun g e => by cases e))
  obtain ⟨va1, va2, rfl, -, -⟩ := alt8.form
  have h8 := mk8.lt
  have HB8 := zx mk8.blk
  clear alt8 mk8 fl8 l9 hn8 HMW
  go_wp2_with fail
  refine hK.out _ _ (⟨P0, P1⟩) (fun hHeld => ?_)
  clear hK K
  try simp only [pls]
  refine wpAnyH_ready (rs := [7]) (by kernel_rfl) (by simp) ?_
  refine AllReadyH.cons rfl (fun K hK => ?_) AllReadyH.nil
  go_simp
  refine (zy CF).mono ?_
  clear CF
  rintro e w9 ⟨rfl, mk9, fl9⟩
  have P0 : w9.heap[w.heap.size]? = some (.cells #[.int .i64 k, .string S, .slice a1 n1 c1, .slice a2 n2 c2, .int .i64 q] 40) := fl9.block _ _ P0 (by omega) (by simp) (fun cs fr e => by injection e with _ e; exact absurd e (by decide))
  have P1 : w9.heap[w6.heap.size]? = some (.cells #[.int .i64 2, .slice none 0 0, .int .i64 (s.made.length : Int)] 64) := fl9.block _ _ P1 (by omega) (by simp) (fun cs fr e => by injection e with _ e; exact absurd e (by decide))
  have HF9 := zx ((zy HF8).then fl9 (fun g e => by cases e))
  have L9 := (zy HL).fl (zy HF9) hb (Zk _) (fun g _ e => by cases e)
  have CP := zx (fput_l L9 (Nat.le_trans (zy HBB) (zy HF9).size) 2 (s.made.length : Int) [] none 0 (Rs.nil w9) (Ty.nil w9))
  simp only [List.length_nil] at CP
  have HM9 := zx mk9
  clear mk9 fl9 L9 HF8 LW PW
  go_wp2_with fail
  refine hK.out _ _ (⟨P0, P1⟩) (fun hHeld => ?_)
  clear hK K
  try simp only [pls]
  refine wpAnyH_done (by kernel_rfl) ?_ _
  obtain ⟨⟨x0, x1, x2⟩, -⟩ := qZ P1
  clear P0 P1 HB8 hHeld
  go_wp2_with fail
  refine (zy CP).mono ?_
  clear CP
  rintro e w10 ⟨v10, rfl, lv10, gr10, nx10, kr10⟩
  obtain ⟨ya, yc, rfl⟩ := lv10.form
  go_wp2_with fail
  go_ret
  rw [zy FIN]
  exact XX (zy HL) (zy MB) (zy HM9) (zy HF9) lv10 gr10 nx10
theorem MakV.deep {D : Nat → Prop} {w : World} {B b m : Nat} {ns : List (List Int)} {d : Int} {v : Value} {s : Mk} (h : MakV D w B b m ns d v s) (d' : Int) (hd : 0 ≤ d' ∧ d' ≤ 131072) : MakV D (w.setCell ⟨b, 11, none⟩ (.int .i64 d')) B b m ns d' v s ∧ Fl B b none w (w.setCell ⟨b, 11, none⟩ (.int .i64 d')) := by
 have fl : Fl B b none w (w.setCell ⟨b, 11, none⟩ (.int .i64 d')) := Fl.set (x := none) w h.hB 11 _
 refine ⟨h.re (x := none) fl (Zk w) (no_d w) ?_ (fun g o hg ho => zj ho (h.made_ne g hg) _) rfl hd h.l0, fl⟩
 have h1 := heap_setCell_same w b 11 _ _ (.int .i64 d') h.cells
 rw [h1]
 simp [qk]
theorem MakV.less {D : Nat → Prop} {w : World} {B b m : Nat} {ns : List (List Int)} {d : Int} {v : Value} {s : Mk} (h : MakV D w B b m ns d v s) (y : Int) (hy : 0 ≤ y ∧ y ≤ 2147483647) : MakV D (w.setCell ⟨b, 12, none⟩ (.int .i64 y)) B b m ns d v ⟨s.made, y, s.pl, s.why⟩ ∧ Fl B b none w (w.setCell ⟨b, 12, none⟩ (.int .i64 y)) := by
 have fl : Fl B b none w (w.setCell ⟨b, 12, none⟩ (.int .i64 y)) := Fl.set (x := none) w h.hB 12 _
 refine ⟨h.re (x := none) fl (Zk w) (no_d w) ?_ (fun g o hg ho => zj ho (h.made_ne g hg) _) rfl h.d0 hy, fl⟩
 have h1 := heap_setCell_same w b 12 _ _ (.int .i64 y) h.cells
 rw [h1]
 simp [qk]
def wayF : Nat → Nat
 | 0 => 73
 | 1 => 74
 | 2 => 75
 | 3 => 76
 | 4 => 77
 | 5 => 78
 | 6 => 79
 | 7 => 80
 | _ => 81
theorem mk_way {W : World} {v : Value} {m b : Nat} {d : Int} {s : Mk} (h : W.heap[b]? = some (.cells (qk v m b d s) 84)) (k : Nat) (hk : k ≤ 8) : W.cell? ⟨b, 2 + k, none⟩ = some (wayV (wayF k) b) := by
 unfold qk at h
 have : k = 0 ∨ k = 1 ∨ k = 2 ∨ k = 3 ∨ k = 4 ∨ k = 5 ∨ k = 6 ∨ k = 7 ∨ k = 8 := by omega
 rcases this with rfl | rfl | rfl | rfl | rfl | rfl | rfl | rfl | rfl <;> simp [World.cell?, h, wayF]
def WyC (ns : List (List Int)) (n : Nat) (d : Int) (f : Nat) (kk : Int) : Prop :=
 ∀ (D : Nat → Prop) (w : World) (B b m : Nat) (s : Mk) (v : Value) (l : List SY) (pv : Value) (p : PT), B ≤ w.heap.size → (∀ k, w.heap.size ≤ k → D k) → Mak (fun k => D k ∧ some k ≠ v.ownBlock) w B b m ns d s → LV w B v l → PartB B (n + 1) w pv p → smP (n + 1) p → kdP p = kk →
  Calls Tryz.prog f #[.pointer (some ⟨b, 0, none⟩), v, pv] w (LfR D B b m ns d v w (jo ns (zX ns n d) s l p))
theorem LfR.mono_w {D : Nat → Prop} {B b m : Nat} {ns : List (List Int)} {d : Int} {v : Value} {w W : World} {r : Mk × List SY} {e : Ending} {w' : World} (h : LfR D B b m ns d v W r e w') (f : Fl B b none w W) : LfR D B b m ns d v w r e w' := by
 obtain ⟨v', e1, k1, k2, k3, k4⟩ := h
 refine ⟨v', e1, k1, k2, f.none.then k3 (fun g hg => .inl hg), fun g hg => ?_⟩
 rcases k4 g hg with c | c
 ·exact .inl c
 ·exact .inr (Nat.le_trans f.size c)
theorem way_5 {ns : List (List Int)} {n : Nat} {d : Int} (HP : Yj ns n d) : WyC ns n d (wayF 5) 5 := by
 intro D w B b m s v l pv p hB hD h hL hp hs hk
 have e : jo ns (zX ns n d) s l p = kw (zX ns n d) s l p := by unfold jo; rw [hk]; rfl
 rw [e]
 have B1 : ∀ o, Below w.heap.size w (w.alloc o) := fun o => Below.new1 o
 have CA := zx (fun W (bW : Below w.heap.size w W) => fanew_l (D := D) (w := W) 131 (qV Tryz.func131 rfl rfl) (AG := fun p nn s => qu (zX ns n d) (psP p) s []) (fun D w B b m s pv p nn hB hD h hp hs => feach_l HP pv p _ _ _ _ _ hB hD h hp hs) (l := l) pv p (by have := bW.size; omega) (fun k hk => hD k (by have := bW.size; omega)) (by obtain ⟨mv, hm⟩ := h; exact ⟨mv, hm.later bW⟩) (hL.later bW) (PartB.kept (fun g hg => ⟨hg, bW.block g (by omega)⟩) (KR.of bW) (n + 1) _ p hp) hs (fun nn s => by unfold ke; rw [hk]; rfl))
 obtain ⟨k, S, a1, n1, c1, a2, n2, c2, q, rfl, -, -⟩ := jz hp
 obtain ⟨la, lc, rfl⟩ := hL.form
 have hlt : b < w.heap.size := by obtain ⟨mv, hm⟩ := h; exact hm.lt
 clear hp hs hD hB h hL hk e
 show Calls Tryz.prog 78 _ _ _
 generalize kw (zX ns n d) s l p = r at *
 have hmf : ∀ (fn : Fn) (first cap : Array Value) (w : World), (Instr.makeFunc fn first cap).run Tryz.prog w = .ok (.func fn first cap) w := fun _ _ _ _ => rfl
 go_enter Tryz.func78, Tryz.ntmps78
 go_wp2_with fail
 refine (zy CA _ (B1 _)).mono ?_
 clear CA
 rintro e w2 lf
 obtain ⟨v2, rfl, lv2, -⟩ := id lf
 obtain ⟨ya, yc, rfl⟩ := lv2.form
 have HLF := zx lf
 clear lf lv2
 go_wp2_with fail
 go_ret
 exact (zy HLF).mono_w (Fl.of (B1 _))
theorem way_6 {ns : List (List Int)} {n : Nat} {d : Int} (HP : Yj ns n d) : WyC ns n d (wayF 6) 6 := by
 intro D w B b m s v l pv p hB hD h hL hp hs hk
 have e : jo ns (zX ns n d) s l p = kw (zX ns n d) s l p := by unfold jo; rw [hk]; rfl
 rw [e]
 have B1 : ∀ o, Below w.heap.size w (w.alloc o) := fun o => Below.new1 o
 have CA := zx (fun W (bW : Below w.heap.size w W) => fanew_l (D := D) (w := W) 132 (qV Tryz.func132 rfl rfl) (fstar_l HP) (l := l) pv p (by have := bW.size; omega) (fun k hk => hD k (by have := bW.size; omega)) (by obtain ⟨mv, hm⟩ := h; exact ⟨mv, hm.later bW⟩) (hL.later bW) (PartB.kept (fun g hg => ⟨hg, bW.block g (by omega)⟩) (KR.of bW) (n + 1) _ p hp) hs (fun nn s => by unfold ke; rw [hk]; rfl))
 obtain ⟨k, S, a1, n1, c1, a2, n2, c2, q, rfl, -, -⟩ := jz hp
 obtain ⟨la, lc, rfl⟩ := hL.form
 have hlt : b < w.heap.size := by obtain ⟨mv, hm⟩ := h; exact hm.lt
 clear hp hs hD hB h hL hk e
 show Calls Tryz.prog 79 _ _ _
 generalize kw (zX ns n d) s l p = r at *
 have hmf : ∀ (fn : Fn) (first cap : Array Value) (w : World), (Instr.makeFunc fn first cap).run Tryz.prog w = .ok (.func fn first cap) w := fun _ _ _ _ => rfl
 go_enter Tryz.func79, Tryz.ntmps79
 go_wp2_with fail
 refine (zy CA _ (B1 _)).mono ?_
 clear CA
 rintro e w2 lf
 obtain ⟨v2, rfl, lv2, -⟩ := id lf
 obtain ⟨ya, yc, rfl⟩ := lv2.form
 have HLF := zx lf
 clear lf lv2
 go_wp2_with fail
 go_ret
 exact (zy HLF).mono_w (Fl.of (B1 _))
theorem way_7 {ns : List (List Int)} {n : Nat} {d : Int} (HP : Yj ns n d) : WyC ns n d (wayF 7) 7 := by
 intro D w B b m s v l pv p hB hD h hL hp hs hk
 have e : jo ns (zX ns n d) s l p = kw (zX ns n d) s l p := by unfold jo; rw [hk]; rfl
 rw [e]
 have B1 : ∀ o, Below w.heap.size w (w.alloc o) := fun o => Below.new1 o
 have CA := zx (fun W (bW : Below w.heap.size w W) => fanew_l (D := D) (w := W) 133 (qV Tryz.func133 rfl rfl) (fplus_l HP (fun p s hs => only_sm ns n d p s hs)) (l := l) pv p (by have := bW.size; omega) (fun k hk => hD k (by have := bW.size; omega)) (by obtain ⟨mv, hm⟩ := h; exact ⟨mv, hm.later bW⟩) (hL.later bW) (PartB.kept (fun g hg => ⟨hg, bW.block g (by omega)⟩) (KR.of bW) (n + 1) _ p hp) hs (fun nn s => by unfold ke; rw [hk]; rfl))
 obtain ⟨k, S, a1, n1, c1, a2, n2, c2, q, rfl, -, -⟩ := jz hp
 obtain ⟨la, lc, rfl⟩ := hL.form
 have hlt : b < w.heap.size := by obtain ⟨mv, hm⟩ := h; exact hm.lt
 clear hp hs hD hB h hL hk e
 show Calls Tryz.prog 80 _ _ _
 generalize kw (zX ns n d) s l p = r at *
 have hmf : ∀ (fn : Fn) (first cap : Array Value) (w : World), (Instr.makeFunc fn first cap).run Tryz.prog w = .ok (.func fn first cap) w := fun _ _ _ _ => rfl
 go_enter Tryz.func80, Tryz.ntmps80
 go_wp2_with fail
 refine (zy CA _ (B1 _)).mono ?_
 clear CA
 rintro e w2 lf
 obtain ⟨v2, rfl, lv2, -⟩ := id lf
 obtain ⟨ya, yc, rfl⟩ := lv2.form
 have HLF := zx lf
 clear lf lv2
 go_wp2_with fail
 go_ret
 exact (zy HLF).mono_w (Fl.of (B1 _))
theorem way_8 {ns : List (List Int)} {n : Nat} {d : Int} (HP : Yj ns n d) : WyC ns n d (wayF 8) 8 := by
 intro D w B b m s v l pv p hB hD h hL hp hs hk
 have e : jo ns (zX ns n d) s l p = kw (zX ns n d) s l p := by unfold jo; rw [hk]; rfl
 rw [e]
 have B1 : ∀ o, Below w.heap.size w (w.alloc o) := fun o => Below.new1 o
 have CA := zx (fun W (bW : Below w.heap.size w W) => fanew_l (D := D) (w := W) 134 (qV Tryz.func134 rfl rfl) (fopt_l HP) (l := l) pv p (by have := bW.size; omega) (fun k hk => hD k (by have := bW.size; omega)) (by obtain ⟨mv, hm⟩ := h; exact ⟨mv, hm.later bW⟩) (hL.later bW) (PartB.kept (fun g hg => ⟨hg, bW.block g (by omega)⟩) (KR.of bW) (n + 1) _ p hp) hs (fun nn s => by unfold ke; rw [hk]; rfl))
 obtain ⟨k, S, a1, n1, c1, a2, n2, c2, q, rfl, -, -⟩ := jz hp
 obtain ⟨la, lc, rfl⟩ := hL.form
 have hlt : b < w.heap.size := by obtain ⟨mv, hm⟩ := h; exact hm.lt
 clear hp hs hD hB h hL hk e
 show Calls Tryz.prog 81 _ _ _
 generalize kw (zX ns n d) s l p = r at *
 have hmf : ∀ (fn : Fn) (first cap : Array Value) (w : World), (Instr.makeFunc fn first cap).run Tryz.prog w = .ok (.func fn first cap) w := fun _ _ _ _ => rfl
 go_enter Tryz.func81, Tryz.ntmps81
 go_wp2_with fail
 refine (zy CA _ (B1 _)).mono ?_
 clear CA
 rintro e w2 lf
 obtain ⟨v2, rfl, lv2, -⟩ := id lf
 obtain ⟨ya, yc, rfl⟩ := lv2.form
 have HLF := zx lf
 clear lf lv2
 go_wp2_with fail
 go_ret
 exact (zy HLF).mono_w (Fl.of (B1 _))
theorem way_0 (ns : List (List Int)) (n : Nat) (d : Int) : WyC ns n d (wayF 0) 0 := by
 intro D w B b m s v l pv p hB hD h hL hp hs hk
 have e : jo ns (zX ns n d) s l p = callS ns s l p := by unfold jo; rw [if_pos hk]
 rw [e]
 exact fcall_l n pv p hB h hL hp
theorem way_1 (ns : List (List Int)) (n : Nat) (d : Int) : WyC ns n d (wayF 1) 1 := by
 intro D w B b m s v l pv p hB hD h hL hp hs hk
 have e : jo ns (zX ns n d) s l p = (s, vY (txP p) l) := by unfold jo; rw [hk]; rfl
 rw [e]
 exact ftext_l n pv p hB h hL hp hs.1
theorem way_2 (ns : List (List Int)) (n : Nat) (d : Int) : WyC ns n d (wayF 2) 2 := by
 intro D w B b m s v l pv p hB hD h hL hp hs hk
 have e : jo ns (zX ns n d) s l p = (s, jW l (1, rgP p, 0)) := by unfold jo; rw [hk]; rfl
 rw [e]
 exact fset_l n pv p hB h hL hp hs.2.1
theorem way_3 (ns : List (List Int)) (n : Nat) (d : Int) : WyC ns n d (wayF 3) 3 := by
 intro D w B b m s v l pv p hB hD h hL hp hs hk
 have e : jo ns (zX ns n d) s l p = (s, jW l (0, rgP p, 0)) := by unfold jo; rw [hk]; rfl
 rw [e]
 exact foct_l n pv p hB h hL hp hs.2.1
theorem way_4 {ns : List (List Int)} {n : Nat} {d : Int} (HP : Yj ns n d) : WyC ns n d (wayF 4) 4 := by
 intro D w B b m s v l pv p hB hD h hL hp hs hk
 have e : jo ns (zX ns n d) s l p = Za (zX ns n d) (psP p) s l := by unfold jo; rw [hk]; rfl
 rw [e]
 exact fseq_l HP pv p hB hD h hL hp hs
theorem all_ways {ns : List (List Int)} {n : Nat} {d : Int} (HP : Yj ns n d) : ∀ k, k ≤ 8 → WyC ns n d (wayF k) k := by
 intro k hk
 have : k = 0 ∨ k = 1 ∨ k = 2 ∨ k = 3 ∨ k = 4 ∨ k = 5 ∨ k = 6 ∨ k = 7 ∨ k = 8 := by omega
 rcases this with rfl | rfl | rfl | rfl | rfl | rfl | rfl | rfl | rfl
 ·exact way_0 ns n d
 ·exact way_1 ns n d
 ·exact way_2 ns n d
 ·exact way_3 ns n d
 ·exact way_4 HP
 ·exact way_5 HP
 ·exact way_6 HP
 ·exact way_7 HP
 ·exact way_8 HP
theorem part_bad {ns : List (List Int)} {n : Nat} {d : Int} {s : Mk} {l : List SY} {p : PT} (h : kdP p < 0 ∨ 9 ≤ kdP p ∨ d = 131072 ∨ s.left = 0) : zX ns (n + 1) d s l p = (s.stop (atP p) 7, l) := by unfold zX; rw [if_pos h]
theorem part_good {ns : List (List Int)} {n : Nat} {d : Int} {s : Mk} {l : List SY} {p : PT} (h : ¬ (kdP p < 0 ∨ 9 ≤ kdP p ∨ d = 131072 ∨ s.left = 0)) : zX ns (n + 1) d s l p = jo ns (zX ns n (d + 1)) ⟨s.made, s.left - 1, s.pl, s.why⟩ l p := by
 conv => lhs; unfold zX
 rw [if_neg h]
theorem part_zero (ns : List (List Int)) (d : Int) : Yj ns 0 d := fun D w B b m s v l pv p _ _ _ _ hp _ => hp.elim
theorem way_enter : ∀ k, k ≤ 8 → ∀ args W, (callFunc (wayF k) args).run Tryz.prog W = .ok (.enter (wayF k) args) W := by
 intro k hk
 have : k = 0 ∨ k = 1 ∨ k = 2 ∨ k = 3 ∨ k = 4 ∨ k = 5 ∨ k = 6 ∨ k = 7 ∨ k = 8 := by omega
 rcases this with rfl | rfl | rfl | rfl | rfl | rfl | rfl | rfl | rfl
 ·exact qV Tryz.func73 rfl rfl
 ·exact qV Tryz.func74 rfl rfl
 ·exact qV Tryz.func75 rfl rfl
 ·exact qV Tryz.func76 rfl rfl
 ·exact qV Tryz.func77 rfl rfl
 ·exact qV Tryz.func78 rfl rfl
 ·exact qV Tryz.func79 rfl rfl
 ·exact qV Tryz.func80 rfl rfl
 ·exact qV Tryz.func81 rfl rfl
theorem part_succ {ns : List (List Int)} {n : Nat} {d : Int} (HW : ∀ k, k ≤ 8 → WyC ns n (d + 1) (wayF k) k) : Yj ns (n + 1) d := by
 intro D w B b m s v l pv p hB hD h hL hp hs
 obtain ⟨mv, hm⟩ := h
 have B1 : ∀ o, Below w.heap.size w (w.alloc o) := fun o => Below.new1 o
 have hlt := hm.lt
 have MB := zx hm.blk
 have HM := zx hm
 have HL := zx hL
 have HP := zx hp
 have HSP := zx hs
 have HBB := zx hB
 have HDD := zx hD
 obtain ⟨hd0, hd1⟩ := hm.d0
 obtain ⟨hy0, hy1⟩ := hm.l0
 have hyy : ∃ y, y = s.left := ⟨_, rfl⟩
 obtain ⟨y, hyy⟩ := hyy
 rw [← hyy] at hy0 hy1
 have HYY := zx hyy
 have C11 : ∀ o, (w.alloc o).cell? ⟨b, 11, none⟩ = some (.int .i64 d) := fun o => (yK (hm.later (B1 o)).cells).2.2.1
 have C12 : ∀ o, (w.alloc o).cell? ⟨b, 12, none⟩ = some (.int .i64 y) := fun o => by rw [hyy]; exact (yK (hm.later (B1 o)).cells).2.2.2.1
 have Z11 : ∀ o, (w.alloc o).frozen? ⟨b, 11, none⟩ = false := fun o => (yK (hm.later (B1 o)).cells).2.2.2.2.2.2.2.1
 have Z12 : ∀ o, (w.alloc o).frozen? ⟨b, 12, none⟩ = false := fun o => (yK (hm.later (B1 o)).cells).2.2.2.2.2.2.2.2.1
 obtain ⟨k, S, a1, n1, c1, a2, n2, c2, q, rfl, hk, hq⟩ := jz hp
 have CS := zx (fun W (bW : Below w.heap.size w W) => YJ (hm.later bW) q 7)
 obtain ⟨la, lc, rfl⟩ := hL.form
 by_cases k1 : k < 0
 ·have FIN : Hid (zX ns (n + 1) d s l p = (s.stop q 7, l)) := by show _ = _; rw [hq]; exact part_bad (.inl (by omega))
  have b1 : decide (k < 0) = true := decide_eq_true k1
  clear hm hL hp hs hD hk hq HW hyy k1
  go_enter Tryz.func129, Tryz.ntmps129
  go_wp2_with fail
  refine (zy CS _ (B1 _)).mono ?_
  rintro e w2 ⟨rfl, hm2, f2⟩
  have FW : Fl B b none w w2 := (Fl.of (B1 _)).then f2 (fun g e => by cases e)
  have HFW := zx FW
  have HM2 := zx hm2
  clear CS hm2 f2 FW
  go_wp2_with fail
  go_ret
  rw [zy FIN]
  obtain ⟨bc, bf, hb⟩ := zy MB
  exact ⟨_, rfl, (zy HL).fl (zy HFW) hb (Zk _) (fun g _ e => by cases e), ⟨_, zy HM2⟩, (zy HFW).none, Nx.refl _ _⟩
 ·by_cases k2 : 9 ≤ k
  ·have FIN : Hid (zX ns (n + 1) d s l p = (s.stop q 7, l)) := by show _ = _; rw [hq]; exact part_bad (.inr (.inl (by omega)))
   have b1 : decide (k < 0) = false := decide_eq_false k1
   have b2 : decide (9 ≤ k) = true := decide_eq_true k2
   clear hm hL hp hs hD hk hq HW hyy k1 k2
   go_enter Tryz.func129, Tryz.ntmps129
   go_wp2_with fail
   refine (zy CS _ (B1 _)).mono ?_
   rintro e w2 ⟨rfl, hm2, f2⟩
   have FW : Fl B b none w w2 := (Fl.of (B1 _)).then f2 (fun g e => by cases e)
   have HFW := zx FW
   have HM2 := zx hm2
   clear CS hm2 f2 FW
   go_wp2_with fail
   go_ret
   rw [zy FIN]
   obtain ⟨bc, bf, hb⟩ := zy MB
   exact ⟨_, rfl, (zy HL).fl (zy HFW) hb (Zk _) (fun g _ e => by cases e), ⟨_, zy HM2⟩, (zy HFW).none, Nx.refl _ _⟩
  ·by_cases k3 : d = 131072
   ·have FIN : Hid (zX ns (n + 1) d s l p = (s.stop q 7, l)) := by show _ = _; rw [hq]; exact part_bad (.inr (.inr (.inl k3)))
    have b1 : decide (k < 0) = false := decide_eq_false k1
    have b2 : decide (9 ≤ k) = false := decide_eq_false k2
    have b3 : (d == 131072) = true := by rw [k3]; rfl
    clear hm hL hp hs hD hk hq HW hyy k1 k2 k3
    go_enter Tryz.func129, Tryz.ntmps129
    go_wp2_with fail
    refine (zy CS _ (B1 _)).mono ?_
    rintro e w2 ⟨rfl, hm2, f2⟩
    have FW : Fl B b none w w2 := (Fl.of (B1 _)).then f2 (fun g e => by cases e)
    have HFW := zx FW
    have HM2 := zx hm2
    clear CS hm2 f2 FW
    go_wp2_with fail
    go_ret
    rw [zy FIN]
    obtain ⟨bc, bf, hb⟩ := zy MB
    exact ⟨_, rfl, (zy HL).fl (zy HFW) hb (Zk _) (fun g _ e => by cases e), ⟨_, zy HM2⟩, (zy HFW).none, Nx.refl _ _⟩
   ·by_cases k4 : y = 0
    ·have FIN : Hid (zX ns (n + 1) d s l p = (s.stop q 7, l)) := by show _ = _; rw [hq]; exact part_bad (.inr (.inr (.inr (by omega))))
     have b1 : decide (k < 0) = false := decide_eq_false k1
     have b2 : decide (9 ≤ k) = false := decide_eq_false k2
     have b3 : (d == 131072) = false := beq_eq_false_iff_ne.2 k3
     have b4 : (y == 0) = true := by rw [k4]; rfl
     clear hm hL hp hs hD hk hq HW hyy k1 k2 k3 k4
     go_enter Tryz.func129, Tryz.ntmps129
     go_wp2_with fail
     refine (zy CS _ (B1 _)).mono ?_
     rintro e w2 ⟨rfl, hm2, f2⟩
     have FW : Fl B b none w w2 := (Fl.of (B1 _)).then f2 (fun g e => by cases e)
     have HFW := zx FW
     have HM2 := zx hm2
     clear CS hm2 f2 FW
     go_wp2_with fail
     go_ret
     rw [zy FIN]
     obtain ⟨bc, bf, hb⟩ := zy MB
     exact ⟨_, rfl, (zy HL).fl (zy HFW) hb (Zk _) (fun g _ e => by cases e), ⟨_, zy HM2⟩, (zy HFW).none, Nx.refl _ _⟩
    ·have FIN : Hid (zX ns (n + 1) d s l p = jo ns (zX ns n (d + 1)) ⟨s.made, s.left - 1, s.pl, s.why⟩ l p) := part_good (by omega)
     obtain ⟨kk, rfl⟩ : ∃ kk : Nat, k = (kk : Int) := ⟨k.toNat, by omega⟩
     have hkk : kk ≤ 8 := by omega
     have b1 : decide ((kk : Int) < 0) = false := decide_eq_false k1
     have b2 : decide (9 ≤ (kk : Int)) = false := decide_eq_false k2
     have b3 : (d == 131072) = false := beq_eq_false_iff_ne.2 k3
     have b4 : (y == 0) = false := beq_eq_false_iff_ne.2 k4
     have HWK := zx (HW kk hkk)
     have HEN := way_enter kk hkk
     have HK := zx hk
     have c11 := (yK (zy HM).cells).2.2.1
     have c12 : w.cell? ⟨b, 12, none⟩ = some (.int .i64 y) := by rw [hyy]; exact (yK (zy HM).cells).2.2.2.1
     have z11 := (yK (zy HM).cells).2.2.2.2.2.2.2.1
     have z12 := (yK (zy HM).cells).2.2.2.2.2.2.2.2.1
     have hd2 : d + 1 ≤ 131072 := by omega
     have hy2 : 1 ≤ y := by omega
     have MWY := zx (fun (W : World) (v : Value) (m b : Nat) (d : Int) (s : Mk) (h : W.heap[b]? = some (.cells (qk v m b d s) 84)) => mk_way h kk hkk)
     unfold wayV at MWY
     generalize wayF kk = F at *
     have kk9 : (kk : Int) < 9 := by omega
     have kk0 : (0 : Int) ≤ kk := by omega
     clear hm hL hp hs hD hk hq HW hyy k1 k2 k3 k4 CS
     go_enter Tryz.func129, Tryz.ntmps129
     go_wp2_with fail
     have P0 : (((w.setCell ⟨b, 12, none⟩ (.int .i64 (y - 1))).setCell ⟨b, 11, none⟩ (.int .i64 (d + 1))).alloc (.cells #[.int .i64 (kk : Int), .string S, .slice a1 n1 c1, .slice a2 n2 c2, .int .i64 q] 40)).heap[w.heap.size]? = some (.cells #[.int .i64 (kk : Int), .string S, .slice a1 n1 c1, .slice a2 n2 c2, .int .i64 q] 40) := by have := heap_alloc_new ((w.setCell ⟨b, 12, none⟩ (.int .i64 (y - 1))).setCell ⟨b, 11, none⟩ (.int .i64 (d + 1))) (.cells #[.int .i64 (kk : Int), .string S, .slice a1 n1 c1, .slice a2 n2 c2, .int .i64 q] 40); simpa using this
     obtain ⟨m1, f1⟩ := (zy HM).less (y - 1) (by omega)
     obtain ⟨m2, f2⟩ := m1.deep (d + 1) (by omega)
     have m2 := m2.later (Below.new1 (.cells #[.int .i64 (kk : Int), .string S, .slice a1 n1 c1, .slice a2 n2 c2, .int .i64 q] 40))
     have FW : Fl B b none w (((w.setCell ⟨b, 12, none⟩ (.int .i64 (y - 1))).setCell ⟨b, 11, none⟩ (.int .i64 (d + 1))).alloc (.cells #[.int .i64 (kk : Int), .string S, .slice a1 n1 c1, .slice a2 n2 c2, .int .i64 q] 40)) := (f1.then f2 (fun g e => by cases e)).then (Fl.of (x := none) (Below.new1 (.cells #[.int .i64 (kk : Int), .string S, .slice a1 n1 c1, .slice a2 n2 c2, .int .i64 q] 40))) (fun g e => by cases e)
     have sW : (((w.setCell ⟨b, 12, none⟩ (.int .i64 (y - 1))).setCell ⟨b, 11, none⟩ (.int .i64 (d + 1))).alloc (.cells #[.int .i64 (kk : Int), .string S, .slice a1 n1 c1, .slice a2 n2 c2, .int .i64 q] 40)).heap.size = w.heap.size + 1 := by simp
     clear m1 f1 f2 C11 C12 Z11 Z12 c11 c12 z11 z12
     generalize (((w.setCell ⟨b, 12, none⟩ (.int .i64 (y - 1))).setCell ⟨b, 11, none⟩ (.int .i64 (d + 1))).alloc (.cells #[.int .i64 (kk : Int), .string S, .slice a1 n1 c1, .slice a2 n2 c2, .int .i64 q] 40)) = WW at *
     have P1 := zy MWY _ _ _ _ _ _ m2.cells
     obtain ⟨bc, bf, hb⟩ := zy MB
     have LW := (zy HL).fl FW hb (Zk _) (fun g _ e => by cases e)
     have PW := PartB.fl FW hb (Zk _) (zy HBB) (zy HP)
     have CA := zx (fun W (bW : Below WW.heap.size WW W) => zy HWK D W B b m _ _ l _ p (Nat.le_trans (zy HBB) (Nat.le_trans FW.size bW.size)) (fun k hk => zy HDD k (Nat.le_trans FW.size (Nat.le_trans bW.size hk))) ⟨_, m2.later bW⟩ (LW.later bW) (PartB.kept (fun g hg => ⟨hg, bW.block g (Nat.lt_of_lt_of_le hg (Nat.le_trans (zy HBB) FW.size))⟩) (KR.of bW) (n + 1) _ p PW) (zy HSP) (zy HK).symm)
     generalize hr : jo ns (zX ns n (d + 1)) ⟨s.made, y - 1, s.pl, s.why⟩ l p = r at *
     have HR := zx hr
     have HFW := zx FW
     have VL := zx (zy HL).lt
     have VB := zx (zy HL).block
     clear LW PW m2 FW hr HWK
     refine wp_region_held_drew (S := (fun w' => w'.heap[w.heap.size]? = some (.cells #[.int .i64 (kk : Int), .string S, .slice a1 n1 c1, .slice a2 n2 c2, .int .i64 q] 40) ∧ w'.cell? ⟨b, 2 + kk, none⟩ = some (.func (.func F) #[.pointer (some ⟨b, 0, none⟩)] #[]))) (by kernel_rfl) (⟨P0, P1⟩) (fun hHeld => ?_)
     refine tkh 0 ?_ rfl (by kernel_rfl) (fun _ _ _ h => h) ?_ (by assumption) ?_
     rotate_left
     ·intro w hSw; obtain ⟨⟨y0, y1, y2, y3, y4⟩, -⟩ := yV hSw.1; have q2 := hSw.2; (try clear hSw); go_simp; (try with_reducible rfl)
     try simp only [pls]
     refine tkh 1 ?_ rfl (by kernel_rfl) (fun _ _ _ h => h) ?_ (by assumption) ?_
     rotate_left
     ·intro w hSw; obtain ⟨⟨y0, y1, y2, y3, y4⟩, -⟩ := yV hSw.1; have q2 := hSw.2; (try clear hSw); go_simp; (try with_reducible rfl)
     try simp only [pls]
     refine tkh 2 ?_ rfl (by kernel_rfl) (fun _ _ _ h => h) ?_ (by assumption) ?_
     rotate_left
     ·intro w hSw; obtain ⟨⟨y0, y1, y2, y3, y4⟩, -⟩ := yV hSw.1; have q2 := hSw.2; (try clear hSw); go_simp; (try with_reducible rfl)
     try simp only [pls]
     refine tkh 3 ?_ rfl (by kernel_rfl) (fun _ _ _ h => h) ?_ (by assumption) ?_
     rotate_left
     ·intro w hSw; obtain ⟨⟨y0, y1, y2, y3, y4⟩, -⟩ := yV hSw.1; have q2 := hSw.2; (try clear hSw); go_simp; (try with_reducible rfl)
     try simp only [pls]
     refine tkh 4 ?_ rfl (by kernel_rfl) (fun _ _ _ h => h) ?_ (by assumption) ?_
     rotate_left
     ·intro w hSw; obtain ⟨⟨y0, y1, y2, y3, y4⟩, -⟩ := yV hSw.1; have q2 := hSw.2; (try clear hSw); go_simp; (try with_reducible rfl)
     try simp only [pls]
     refine tkh 5 ?_ rfl (by kernel_rfl) (fun _ _ _ h => h) ?_ (by assumption) ?_
     rotate_left
     ·intro w hSw; obtain ⟨⟨y0, y1, y2, y3, y4⟩, -⟩ := yV hSw.1; have q2 := hSw.2; (try clear hSw); go_simp; (try with_reducible rfl)
     try simp only [pls]
     refine tkh 6 ?_ rfl (by kernel_rfl) (fun _ _ _ h => h) ?_ (by assumption) ?_
     rotate_left
     ·intro w hSw; obtain ⟨⟨y0, y1, y2, y3, y4⟩, -⟩ := yV hSw.1; have q2 := hSw.2; (try clear hSw); go_simp; (try with_reducible rfl)
     try simp only [pls]
     refine tkh 7 ?_ rfl (by kernel_rfl) (fun _ _ _ h => h) ?_ (by assumption) ?_
     rotate_left
     ·intro w hSw; obtain ⟨⟨y0, y1, y2, y3, y4⟩, -⟩ := yV hSw.1; have q2 := hSw.2; (try clear hSw); go_simp; (try with_reducible rfl)
     try simp only [pls]
     refine tkh 8 ?_ rfl (by kernel_rfl) (fun _ _ _ h => h) ?_ (by assumption) ?_
     rotate_left
     ·intro w hSw; obtain ⟨⟨y0, y1, y2, y3, y4⟩, -⟩ := yV hSw.1; have q2 := hSw.2; (try clear hSw); go_simp; (try with_reducible rfl)
     try simp only [pls]
     refine wpAnyH_ready (rs := [9]) (by kernel_rfl) (by simp) ?_
     refine AllReadyH.cons rfl (fun K hK => ?_) AllReadyH.nil
     go_simp
     refine (zy CA _ zk).mono ?_
     clear CA
     rintro e w3 lf
     have lf := lf.mono_w (Fl.of (x := none) (zk (k := 1) (w := WW)))
     obtain ⟨v3, rfl, lv3, ⟨mv3, mk3⟩, fl3, nx3⟩ := lf
     have P0 : w3.heap[w.heap.size]? = some (.cells #[.int .i64 (kk : Int), .string S, .slice a1 n1 c1, .slice a2 n2 c2, .int .i64 q] 40) := fl3.block _ _ P0 (by omega) (fun e => by have := (zy VL _ e.symm).2; omega) (fun cs fr e => by injection e with _ e; exact absurd e (by decide))
     have P1 := zy MWY _ _ _ _ _ _ mk3.cells
     obtain ⟨ya, yc, rfl⟩ := lv3.form
     have c11 := (yK mk3.cells).2.2.1
     have z11 := (yK mk3.cells).2.2.2.2.2.2.2.1
     have h3 := mk3.lt
     have HLF := zx (show LfR D B b m ns (d + 1) (.slice la l.length lc) WW r (.returned (.slice ya r.2.length yc)) w3 from ⟨_, rfl, lv3, ⟨mv3, mk3⟩, fl3, nx3⟩)
     have HM3 := zx mk3
     clear lv3 mk3 fl3 nx3
     go_wp2_with fail
     refine hK.out _ _ (⟨P0, P1⟩) (fun hHeld => ?_)
     clear hK K
     try simp only [pls]
     refine tkh 10 ?_ rfl (by kernel_rfl) (fun _ _ _ h => h) ?_ (by assumption) ?_
     rotate_left
     ·intro w hSw; skip; (try clear hSw); go_simp; (try with_reducible rfl)
     try simp only [pls]
     refine wpAnyH_done (by kernel_rfl) ?_ _
     clear P0 P1 hHeld
     go_wp2_with fail
     go_ret
     rw [zy FIN]
     obtain ⟨v3, e3, lv3, -, fl3, nx3⟩ := (zy HLF).mono_w (zy HFW)
     injection e3 with e3
     subst e3
     obtain ⟨md, fd⟩ := (zy HM3).deep d (by omega)
     have hr : jo ns (zX ns n (d + 1)) ⟨s.made, s.left - 1, s.pl, s.why⟩ l p = r := by rw [← zy HYY]; exact zy HR
     rw [hr]
     obtain ⟨bc3, bf3, hb3⟩ := (zy HM3).blk
     exact ⟨_, rfl, lv3.fl fd hb3 (Zk _) (fun g _ e => by cases e), ⟨_, md⟩, fl3.then fd (fun g e => by cases e), nx3⟩
theorem part_c (ns : List (List Int)) : ∀ (n : Nat) (d : Int), Yj ns n d := by
 intro n
 induction n with
 | zero => intro d; exact part_zero ns d
 | succ n ih => intro d; exact part_succ (all_ways (ih (d + 1)))
end Go.Proofs.YtnfgobgflcmepaaGreatDoor.F
namespace Go.Proofs.YtnfgobgflcmepaaGreatDoor.R
open Go.RowKit Go.Proofs.YtnfgobgflcmepaaGreatDoor.T
theorem Zx {W V X : World} (b : Below W.heap.size W X) (e : V.heap = W.heap) {g : Nat} {o : Obj} (h : V.heap[g]? = some o) : X.heap[g]? = some o := by
 rw [e] at h
 exact (b.block g (Array.getElem?_eq_some_iff.1 h).1).trans h
theorem seqF_none {grp : List TN → Res PT} {f : Nat} {q : Int} {acc : List PT} {r : List TN} (h : vo grp r = none) : seqF grp (f + 1) q acc r = .inr (R.ZV 4 acc q, r) := by
 unfold seqF; rw [h]
theorem seqF_bad {grp : List TN → Res PT} {f : Nat} {q : Int} {acc : List PT} {r : List TN} {e : Nat × Int} (h : vo grp r = some (.inl e)) : seqF grp (f + 1) q acc r = .inl e := by
 unfold seqF; rw [h]
theorem seqF_one {grp : List TN → Res PT} {f : Nat} {q : Int} {acc : List PT} {r r1 : List TN} {p : PT} (h : vo grp r = some (.inr (p, r1))) : seqF grp (f + 1) q acc r = seqF grp f q (acc ++ [(oft p r1).1]) (oft p r1).2 := by
 conv => lhs; unfold seqF
 rw [h]
theorem atom_grp {grp : List TN → Res PT} {r : List TN} (h : isS r 40 = true) : vo grp r = some (grp r) := by
 have hk := isS_kd h
 unfold vo
 simp [hk, h]
theorem pe_new {w3 w4 w5 : World} {v : Value} {p : PT} (h : PartE (fun g => New w3 w4 g ∨ New w4 w5 g) w5 v p) (s3 : w3.heap.size ≤ w4.heap.size) (s4 : w4.heap.size ≤ w5.heap.size) : PartE (New w3 w5) w5 v p :=
 h.kept (fun g hg => ⟨by rcases hg with h | h <;> exact ⟨by have := h.1; omega, by have := h.2; omega⟩, rfl⟩) (KR.refl _)
theorem seq_of {dd : Nat} (HGR : GrpC dd) : SeqC dd := by
 intro w b G r m h hr hl hm
 have hbl := h.lt
 have hGl := h.ltG
 have HB : ∀ o, Below w.heap.size w (w.alloc o) := fun o => Below.new1 o
 have CN0 := zx (fun W (bW : Below w.heap.size w W) => next_l W b G r m (dp dd) (h.later bW) hr.ne)
 have HQ := zx (vj hr.pl)
 have HGR' := zx HGR
 have HST := zx (And.intro h (And.intro hr hm))
 clear h hr hm HGR
 generalize hd0 : dp dd = d0 at *
 have HD0 := zx hd0
 clear hd0
 go_enter Tryz.func166, Tryz.ntmps166
 go_wp2_with fail
 refine (zy CN0 _ (HB _)).mono ?_
 rintro e w1 ⟨v1, rfl, ⟨a1, c1, rfl, -, -⟩, b1⟩
 clear CN0
 have B1 := zw (HB _) b1
 have K1 := zx (zV b1)
 have hf := tok_field
 go_wp2_with fail
 clear hf
 go_loopw [4] (fun v wr => Hid (∃ (acc : List PT) (rr : List TN) (f : Nat) (cs : List Value), seqL (jw dd) r = seqF (jw dd) f (pl r) acc rr ∧ rr.length ≤ f ∧ acc.length + rr.length ≤ r.length ∧ RowI b G m d0 w acc rr v cs wr)) (fun _ wr => leftN b wr)
 case atStart => exact ⟨[], r, r.length, [], rfl, Nat.le_refl _, by simp, (zy HST).2.1, (zy HST).1.later B1, (zy HST).2.2.later B1, World.ownsRow_nil _ _ _ _, rfl, Bu.of B1, zy K1⟩
 case round =>
  obtain ⟨acc, rr, f, cs, hS, hff, hal, hI⟩ := zy hrel
  have HS := zx hS
  have HI := zx hI
  obtain ⟨q5, c5, rfl⟩ := xo hI.own
  have hE := hI.he
  have hpos : 1 ≤ rr.length := by cases hq : rr with | nil => exact absurd hq hE.ne | cons x y => simp
  obtain ⟨f', rfl⟩ : ∃ f', f = f' + 1 := ⟨f - 1, by omega⟩
  have CN := zx (fun W (bW : Below wr.heap.size wr W) => next_l W b G rr m d0 (hI.rd.later bW) hE.ne)
  have CL := zx (fun a n c W => lookOf_l (kd rr) (strOfNums (tx rr)) a n c (pl rr : Nat) W)
  rw [lk_str] at CL
  obtain ⟨es, clock, hmm, lku⟩ := hI.mq.get (R.lk rr).1 (R.lk rr).2 hE.lk
  obtain ⟨rc, hrc, q1, -⟩ := hI.rd.cells
  have hbr := hI.rd.lt
  clear hrel hS hI hrc K1 HST
  rcases atom_fn (grp := jw dd) (r := rr) with ⟨ef, hk⟩ | ⟨ef, hk⟩ | ⟨ef, hk⟩ | ⟨ef, hk⟩ | ⟨ef, hk⟩ | ⟨ef, hk⟩
  ·rw [ef] at lku
   have e1 : (R.lk rr).1 = kd rr := rfl
   rw [e1] at lku
   have LKU := zx lku
   clear lku e1 ef
   have ATM : Hid (vo (jw dd) rr = some (.inr (mk 0 (tx rr) [] [] (pl rr : Nat), rr.tail))) := by show _ = _; unfold vo; simp [hk]
   have E1' : Ends rr.tail := hE.tail (by rw [hk]; decide)
   have hrt := qz hE.ne
   have HK := zx hk
   clear hE hk
   go_wp2_with fail
   refine wp_region_held_drew (S := (fun w' => w'.cell? ⟨b, 1, none⟩ = some (.map (some m)) ∧ w'.heap[m]? = some (.map es clock))) (by kernel_rfl) (⟨q1, hmm⟩) (fun hHeld => ?_)
   refine tkh 0 ?_ rfl (by kernel_rfl) (fun _ _ _ h => h) ?_ (by assumption) ?_
   rotate_left
   ·intro w hSw; (try dsimp only at hSw); go_simp; (try with_reducible rfl)
   try simp only [pls]
   refine tkh 1 ?_ rfl (by kernel_rfl) (fun _ _ _ h => h) ?_ (by assumption) ?_
   rotate_left
   ·intro w hSw; (try dsimp only at hSw); go_simp; (try with_reducible rfl)
   try simp only [pls]
   refine tkh 2 ?_ rfl (by kernel_rfl) (fun _ _ _ h => h) ?_ (by assumption) ?_
   rotate_left
   ·intro w hSw; (try dsimp only at hSw); go_simp; (try with_reducible rfl)
   try simp only [pls]
   refine tkh 3 ?_ rfl (by kernel_rfl) (fun _ _ _ h => h) ?_ (by assumption) ?_
   rotate_left
   ·intro w hSw; (try dsimp only at hSw); go_simp; (try with_reducible rfl)
   try simp only [pls]
   refine tkh 4 ?_ rfl (by kernel_rfl) (fun _ _ _ h => h) ?_ (by assumption) ?_
   rotate_left
   ·intro w hSw; (try dsimp only at hSw); go_simp; (try with_reducible rfl)
   try simp only [pls]
   refine wpAnyH_ready (rs := [5]) (by kernel_rfl) (by simp) ?_
   refine AllReadyH.cons rfl (fun K hK => ?_) AllReadyH.nil
   go_simp
   refine (zy CN _ zk).mono ?_; rintro e w2 ⟨v2, rfl, tv2, b2⟩; obtain ⟨a2, c2, rfl, -, -⟩ := tv2
   go_wp2_with fail
   refine hK.out _ _ (by obtain ⟨h0, h1⟩ := hHeld; exact ⟨jV b2 rfl h0, Zx b2 rfl h1⟩) (fun hHeld => ?_)
   clear hK K
   try simp only [pls]
   refine wpAnyH_ready (rs := [6]) (by kernel_rfl) (by simp) ?_
   refine AllReadyH.cons rfl (fun K hK => ?_) AllReadyH.nil
   go_simp
   refine (zy CL _ _ _ _).mono ?_; rintro e w3 ⟨rfl, b3⟩
   go_wp2_with fail
   refine hK.out _ _ (by obtain ⟨h0, h1⟩ := hHeld; exact ⟨jV b3 rfl h0, Zx b3 rfl h1⟩) (fun hHeld => ?_)
   clear hK K
   try simp only [pls]
   refine tkh 7 ?_ rfl (by kernel_rfl) (fun _ _ _ h => h) ?_ (by assumption) ?_
   rotate_left
   ·intro w hSw; (try dsimp only at hSw); (have hlk := zy LKU w hSw.2); go_simp; (try with_reducible rfl)
   try simp only [pls]
   refine tkh 8 ?_ rfl (by kernel_rfl) (fun _ _ _ h => h) ?_ (by assumption) ?_
   rotate_left
   ·intro w hSw; (try dsimp only at hSw); go_simp; (try with_reducible rfl)
   try simp only [pls]
   refine tkh 9 ?_ rfl (by kernel_rfl) (fun _ _ _ h => h) ?_ (by assumption) ?_
   rotate_left
   ·intro w hSw; (try dsimp only at hSw); go_simp; (try with_reducible rfl)
   try simp only [pls]
   refine tkh 10 ?_ rfl (by kernel_rfl) (fun _ _ _ h => h) ?_ (by assumption) ?_
   rotate_left
   ·intro w hSw; (try dsimp only at hSw); go_simp; (try with_reducible rfl)
   try simp only [pls]
   refine tkh 11 ?_ rfl (by kernel_rfl) (fun _ _ _ h => h) ?_ (by assumption) ?_
   rotate_left
   ·intro w hSw; (try dsimp only at hSw); go_simp; (try with_reducible rfl)
   try simp only [pls]
   refine tkh 12 ?_ rfl (by kernel_rfl) (fun _ _ _ h => h) ?_ (by assumption) ?_
   rotate_left
   ·intro w hSw; (try dsimp only at hSw); go_simp; (try with_reducible rfl)
   try simp only [pls]
   refine wpAnyH_done (by kernel_rfl) ?_ _
   have B3 := zw (zw (zk (k := 1) (w := wr) (B := wr.heap.size)) b2) b3
   go_wp2_with fail
   refine (call_l w3 b G rr m d0 ((zy HI).rd.later B3) (zy HI).he (by rw [zy HK]; decide)).mono ?_
   rintro e w4 ⟨v4, rfl, pe4, rd4, bu4⟩
   have hb3 : b < w3.heap.size := by have := B3.size; have := (zy HI).rd.lt; omega
   have E1 := zx E1'
   have CO := zx (often_l w4 b G rr.tail m d0 rd4 E1' (New w3 w4) (fun g hg => ⟨hg.2, by have := hg.1; omega⟩) v4 (mk 0 (tx rr) [] [] (pl rr : Nat)) pe4)
   have hs4 := bu4.size
   clear E1' CN CL LKU q1 hmm
   obtain ⟨z1, z2, z3, z4, z5, z6, z7, z8, z9, rfl, -⟩ := pe4.form
   clear pe4
   go_wp2_with fail
   refine (zy CO).mono ?_
   rintro e w5 ⟨v5, rfl, pe5, rd5, bu5⟩
   clear CO
   have hs5 := bu5.size
   have PE := zx (pe_new pe5 hs4 hs5)
   obtain ⟨x1, x2, x3, x4, x5, x6, x7, x8, x9, rfl, -⟩ := pe5.form
   have HO := Zy (Zy (ju B3 (zy HI).own) bu4 (by omega)) bu5 (by omega)
   have hs3 := B3.size
   have hs0 := (zy HI).bu.size
   have BU5 := zx (bu4.then bu5)
   have RD5 := zx rd5
   clear pe5 rd5 rd4 bu4 bu5
   obtain ⟨ti, hi0, hz0, hz1, hz2⟩ := info_parts ZJ
   go_wp2_with (at_builtin; refine wpList_append_lies _ rfl _ _ 38 rfl (w.heap.size + 1) 40 ti _ 5 80 Tryz.underlying38 hi0 hz0 hz1 hz2 rfl (by omega) _ _ _ rfl (HO.alloc _) ⟨w5.heap.size, 0, none⟩ 1 1 [.int .i64 x1, .string x2, .slice x3 x4 x5, .slice x6 x7 x8, .int .i64 x9] rfl rfl (Xz _ _ _ _ _ _ _ rfl) (by simp [Value.oneCell']) (by omega) (by unfold maxLen; omega) (by omega) (by simp; omega) (w5.heap.size + 1) (by simp) ?_; intro gg cap1 w6 hown1 hgrow hat hlt1)
   have NI := RowI.snoc (zy HI) hbl hGl B3 (zy BU5) ((zy E1).oft (mk 0 (tx rr) [] [] (pl rr : Nat))) (zy RD5) (zy PE) hown1 hgrow (by rcases hat with h | h; exact .inl h; exact .inr (by simp [h]))
   have NI' := zx NI
   clear hgrow hat hlt1 hown1 HO
   (try go_wp2_with fail)
   go_roundw
   case rel =>
    refine ⟨acc ++ [(oft (mk 0 (tx rr) [] [] (pl rr : Nat)) rr.tail).1], (oft (mk 0 (tx rr) [] [] (pl rr : Nat)) rr.tail).2, f', _, ?_, ?_, ?_, zy NI'⟩
    ·rw [zy HS]; exact seqF_one (zy ATM)
    ·have := xu (mk 0 (tx rr) [] [] (pl rr : Nat)) rr.tail; omega
    ·have := xu (mk 0 (tx rr) [] [] (pl rr : Nat)) rr.tail; rw [List.length_append, List.length_singleton]; omega
   case measure =>
    rw [(zy NI').rd.left, (zy HI).rd.left]
    have := xu (mk 0 (tx rr) [] [] (pl rr : Nat)) rr.tail
    omega
  ·rw [ef] at lku
   have e1 : (R.lk rr).1 = kd rr := rfl
   rw [e1] at lku
   have LKU := zx lku
   clear lku e1 ef
   have ATM : Hid (vo (jw dd) rr = some (.inr (mk 1 (tx rr) [] [] (pl rr : Nat), rr.tail))) := by show _ = _; unfold vo; simp [hk]
   have E1' : Ends rr.tail := hE.tail (by rw [hk]; decide)
   have hrt := qz hE.ne
   have HK := zx hk
   clear hE hk
   go_wp2_with fail
   refine wp_region_held_drew (S := (fun w' => w'.cell? ⟨b, 1, none⟩ = some (.map (some m)) ∧ w'.heap[m]? = some (.map es clock))) (by kernel_rfl) (⟨q1, hmm⟩) (fun hHeld => ?_)
   refine tkh 0 ?_ rfl (by kernel_rfl) (fun _ _ _ h => h) ?_ (by assumption) ?_
   rotate_left
   ·intro w hSw; (try dsimp only at hSw); go_simp; (try with_reducible rfl)
   try simp only [pls]
   refine tkh 1 ?_ rfl (by kernel_rfl) (fun _ _ _ h => h) ?_ (by assumption) ?_
   rotate_left
   ·intro w hSw; (try dsimp only at hSw); go_simp; (try with_reducible rfl)
   try simp only [pls]
   refine tkh 2 ?_ rfl (by kernel_rfl) (fun _ _ _ h => h) ?_ (by assumption) ?_
   rotate_left
   ·intro w hSw; (try dsimp only at hSw); go_simp; (try with_reducible rfl)
   try simp only [pls]
   refine tkh 3 ?_ rfl (by kernel_rfl) (fun _ _ _ h => h) ?_ (by assumption) ?_
   rotate_left
   ·intro w hSw; (try dsimp only at hSw); go_simp; (try with_reducible rfl)
   try simp only [pls]
   refine tkh 4 ?_ rfl (by kernel_rfl) (fun _ _ _ h => h) ?_ (by assumption) ?_
   rotate_left
   ·intro w hSw; (try dsimp only at hSw); go_simp; (try with_reducible rfl)
   try simp only [pls]
   refine wpAnyH_ready (rs := [5]) (by kernel_rfl) (by simp) ?_
   refine AllReadyH.cons rfl (fun K hK => ?_) AllReadyH.nil
   go_simp
   refine (zy CN _ zk).mono ?_; rintro e w2 ⟨v2, rfl, tv2, b2⟩; obtain ⟨a2, c2, rfl, -, -⟩ := tv2
   go_wp2_with fail
   refine hK.out _ _ (by obtain ⟨h0, h1⟩ := hHeld; exact ⟨jV b2 rfl h0, Zx b2 rfl h1⟩) (fun hHeld => ?_)
   clear hK K
   try simp only [pls]
   refine wpAnyH_ready (rs := [6]) (by kernel_rfl) (by simp) ?_
   refine AllReadyH.cons rfl (fun K hK => ?_) AllReadyH.nil
   go_simp
   refine (zy CL _ _ _ _).mono ?_; rintro e w3 ⟨rfl, b3⟩
   go_wp2_with fail
   refine hK.out _ _ (by obtain ⟨h0, h1⟩ := hHeld; exact ⟨jV b3 rfl h0, Zx b3 rfl h1⟩) (fun hHeld => ?_)
   clear hK K
   try simp only [pls]
   refine tkh 7 ?_ rfl (by kernel_rfl) (fun _ _ _ h => h) ?_ (by assumption) ?_
   rotate_left
   ·intro w hSw; (try dsimp only at hSw); (have hlk := zy LKU w hSw.2); go_simp; (try with_reducible rfl)
   try simp only [pls]
   refine tkh 8 ?_ rfl (by kernel_rfl) (fun _ _ _ h => h) ?_ (by assumption) ?_
   rotate_left
   ·intro w hSw; (try dsimp only at hSw); go_simp; (try with_reducible rfl)
   try simp only [pls]
   refine tkh 9 ?_ rfl (by kernel_rfl) (fun _ _ _ h => h) ?_ (by assumption) ?_
   rotate_left
   ·intro w hSw; (try dsimp only at hSw); go_simp; (try with_reducible rfl)
   try simp only [pls]
   refine tkh 10 ?_ rfl (by kernel_rfl) (fun _ _ _ h => h) ?_ (by assumption) ?_
   rotate_left
   ·intro w hSw; (try dsimp only at hSw); go_simp; (try with_reducible rfl)
   try simp only [pls]
   refine tkh 11 ?_ rfl (by kernel_rfl) (fun _ _ _ h => h) ?_ (by assumption) ?_
   rotate_left
   ·intro w hSw; (try dsimp only at hSw); go_simp; (try with_reducible rfl)
   try simp only [pls]
   refine tkh 12 ?_ rfl (by kernel_rfl) (fun _ _ _ h => h) ?_ (by assumption) ?_
   rotate_left
   ·intro w hSw; (try dsimp only at hSw); go_simp; (try with_reducible rfl)
   try simp only [pls]
   refine wpAnyH_done (by kernel_rfl) ?_ _
   have B3 := zw (zw (zk (k := 1) (w := wr) (B := wr.heap.size)) b2) b3
   go_wp2_with fail
   refine (text_l w3 b G rr m d0 ((zy HI).rd.later B3) (zy HI).he (by rw [zy HK]; decide)).mono ?_
   rintro e w4 ⟨v4, rfl, pe4, rd4, bu4⟩
   have hb3 : b < w3.heap.size := by have := B3.size; have := (zy HI).rd.lt; omega
   have E1 := zx E1'
   have CO := zx (often_l w4 b G rr.tail m d0 rd4 E1' (New w3 w4) (fun g hg => ⟨hg.2, by have := hg.1; omega⟩) v4 (mk 1 (tx rr) [] [] (pl rr : Nat)) pe4)
   have hs4 := bu4.size
   clear E1' CN CL LKU q1 hmm
   obtain ⟨z1, z2, z3, z4, z5, z6, z7, z8, z9, rfl, -⟩ := pe4.form
   clear pe4
   go_wp2_with fail
   refine (zy CO).mono ?_
   rintro e w5 ⟨v5, rfl, pe5, rd5, bu5⟩
   clear CO
   have hs5 := bu5.size
   have PE := zx (pe_new pe5 hs4 hs5)
   obtain ⟨x1, x2, x3, x4, x5, x6, x7, x8, x9, rfl, -⟩ := pe5.form
   have HO := Zy (Zy (ju B3 (zy HI).own) bu4 (by omega)) bu5 (by omega)
   have hs3 := B3.size
   have hs0 := (zy HI).bu.size
   have BU5 := zx (bu4.then bu5)
   have RD5 := zx rd5
   clear pe5 rd5 rd4 bu4 bu5
   obtain ⟨ti, hi0, hz0, hz1, hz2⟩ := info_parts ZJ
   go_wp2_with (at_builtin; refine wpList_append_lies _ rfl _ _ 38 rfl (w.heap.size + 1) 40 ti _ 5 80 Tryz.underlying38 hi0 hz0 hz1 hz2 rfl (by omega) _ _ _ rfl (HO.alloc _) ⟨w5.heap.size, 0, none⟩ 1 1 [.int .i64 x1, .string x2, .slice x3 x4 x5, .slice x6 x7 x8, .int .i64 x9] rfl rfl (Xz _ _ _ _ _ _ _ rfl) (by simp [Value.oneCell']) (by omega) (by unfold maxLen; omega) (by omega) (by simp; omega) (w5.heap.size + 1) (by simp) ?_; intro gg cap1 w6 hown1 hgrow hat hlt1)
   have NI := RowI.snoc (zy HI) hbl hGl B3 (zy BU5) ((zy E1).oft (mk 1 (tx rr) [] [] (pl rr : Nat))) (zy RD5) (zy PE) hown1 hgrow (by rcases hat with h | h; exact .inl h; exact .inr (by simp [h]))
   have NI' := zx NI
   clear hgrow hat hlt1 hown1 HO
   (try go_wp2_with fail)
   go_roundw
   case rel =>
    refine ⟨acc ++ [(oft (mk 1 (tx rr) [] [] (pl rr : Nat)) rr.tail).1], (oft (mk 1 (tx rr) [] [] (pl rr : Nat)) rr.tail).2, f', _, ?_, ?_, ?_, zy NI'⟩
    ·rw [zy HS]; exact seqF_one (zy ATM)
    ·have := xu (mk 1 (tx rr) [] [] (pl rr : Nat)) rr.tail; omega
    ·have := xu (mk 1 (tx rr) [] [] (pl rr : Nat)) rr.tail; rw [List.length_append, List.length_singleton]; omega
   case measure =>
    rw [(zy NI').rd.left, (zy HI).rd.left]
    have := xu (mk 1 (tx rr) [] [] (pl rr : Nat)) rr.tail
    omega
  ·rw [ef] at lku
   have e1 : (R.lk rr).1 = kd rr := rfl
   rw [e1] at lku
   have LKU := zx lku
   clear lku e1 ef
   have ATM : Hid (vo (jw dd) rr = some (.inr (mk 2 [] (rg rr) [] (pl rr : Nat), rr.tail))) := by show _ = _; unfold vo; simp [hk]
   have E1' : Ends rr.tail := hE.tail (by rw [hk]; decide)
   have hrt := qz hE.ne
   have HK := zx hk
   clear hE hk
   go_wp2_with fail
   refine wp_region_held_drew (S := (fun w' => w'.cell? ⟨b, 1, none⟩ = some (.map (some m)) ∧ w'.heap[m]? = some (.map es clock))) (by kernel_rfl) (⟨q1, hmm⟩) (fun hHeld => ?_)
   refine tkh 0 ?_ rfl (by kernel_rfl) (fun _ _ _ h => h) ?_ (by assumption) ?_
   rotate_left
   ·intro w hSw; (try dsimp only at hSw); go_simp; (try with_reducible rfl)
   try simp only [pls]
   refine tkh 1 ?_ rfl (by kernel_rfl) (fun _ _ _ h => h) ?_ (by assumption) ?_
   rotate_left
   ·intro w hSw; (try dsimp only at hSw); go_simp; (try with_reducible rfl)
   try simp only [pls]
   refine tkh 2 ?_ rfl (by kernel_rfl) (fun _ _ _ h => h) ?_ (by assumption) ?_
   rotate_left
   ·intro w hSw; (try dsimp only at hSw); go_simp; (try with_reducible rfl)
   try simp only [pls]
   refine tkh 3 ?_ rfl (by kernel_rfl) (fun _ _ _ h => h) ?_ (by assumption) ?_
   rotate_left
   ·intro w hSw; (try dsimp only at hSw); go_simp; (try with_reducible rfl)
   try simp only [pls]
   refine tkh 4 ?_ rfl (by kernel_rfl) (fun _ _ _ h => h) ?_ (by assumption) ?_
   rotate_left
   ·intro w hSw; (try dsimp only at hSw); go_simp; (try with_reducible rfl)
   try simp only [pls]
   refine wpAnyH_ready (rs := [5]) (by kernel_rfl) (by simp) ?_
   refine AllReadyH.cons rfl (fun K hK => ?_) AllReadyH.nil
   go_simp
   refine (zy CN _ zk).mono ?_; rintro e w2 ⟨v2, rfl, tv2, b2⟩; obtain ⟨a2, c2, rfl, -, -⟩ := tv2
   go_wp2_with fail
   refine hK.out _ _ (by obtain ⟨h0, h1⟩ := hHeld; exact ⟨jV b2 rfl h0, Zx b2 rfl h1⟩) (fun hHeld => ?_)
   clear hK K
   try simp only [pls]
   refine wpAnyH_ready (rs := [6]) (by kernel_rfl) (by simp) ?_
   refine AllReadyH.cons rfl (fun K hK => ?_) AllReadyH.nil
   go_simp
   refine (zy CL _ _ _ _).mono ?_; rintro e w3 ⟨rfl, b3⟩
   go_wp2_with fail
   refine hK.out _ _ (by obtain ⟨h0, h1⟩ := hHeld; exact ⟨jV b3 rfl h0, Zx b3 rfl h1⟩) (fun hHeld => ?_)
   clear hK K
   try simp only [pls]
   refine tkh 7 ?_ rfl (by kernel_rfl) (fun _ _ _ h => h) ?_ (by assumption) ?_
   rotate_left
   ·intro w hSw; (try dsimp only at hSw); (have hlk := zy LKU w hSw.2); go_simp; (try with_reducible rfl)
   try simp only [pls]
   refine tkh 8 ?_ rfl (by kernel_rfl) (fun _ _ _ h => h) ?_ (by assumption) ?_
   rotate_left
   ·intro w hSw; (try dsimp only at hSw); go_simp; (try with_reducible rfl)
   try simp only [pls]
   refine tkh 9 ?_ rfl (by kernel_rfl) (fun _ _ _ h => h) ?_ (by assumption) ?_
   rotate_left
   ·intro w hSw; (try dsimp only at hSw); go_simp; (try with_reducible rfl)
   try simp only [pls]
   refine tkh 10 ?_ rfl (by kernel_rfl) (fun _ _ _ h => h) ?_ (by assumption) ?_
   rotate_left
   ·intro w hSw; (try dsimp only at hSw); go_simp; (try with_reducible rfl)
   try simp only [pls]
   refine tkh 11 ?_ rfl (by kernel_rfl) (fun _ _ _ h => h) ?_ (by assumption) ?_
   rotate_left
   ·intro w hSw; (try dsimp only at hSw); go_simp; (try with_reducible rfl)
   try simp only [pls]
   refine tkh 12 ?_ rfl (by kernel_rfl) (fun _ _ _ h => h) ?_ (by assumption) ?_
   rotate_left
   ·intro w hSw; (try dsimp only at hSw); go_simp; (try with_reducible rfl)
   try simp only [pls]
   refine wpAnyH_done (by kernel_rfl) ?_ _
   have B3 := zw (zw (zk (k := 1) (w := wr) (B := wr.heap.size)) b2) b3
   go_wp2_with fail
   refine (set_l w3 b G rr m d0 ((zy HI).rd.later B3) (zy HI).he (by rw [zy HK]; decide)).mono ?_
   rintro e w4 ⟨v4, rfl, pe4, rd4, bu4⟩
   have hb3 : b < w3.heap.size := by have := B3.size; have := (zy HI).rd.lt; omega
   have E1 := zx E1'
   have CO := zx (often_l w4 b G rr.tail m d0 rd4 E1' (New w3 w4) (fun g hg => ⟨hg.2, by have := hg.1; omega⟩) v4 (mk 2 [] (rg rr) [] (pl rr : Nat)) pe4)
   have hs4 := bu4.size
   clear E1' CN CL LKU q1 hmm
   obtain ⟨z1, z2, z3, z4, z5, z6, z7, z8, z9, rfl, -⟩ := pe4.form
   clear pe4
   go_wp2_with fail
   refine (zy CO).mono ?_
   rintro e w5 ⟨v5, rfl, pe5, rd5, bu5⟩
   clear CO
   have hs5 := bu5.size
   have PE := zx (pe_new pe5 hs4 hs5)
   obtain ⟨x1, x2, x3, x4, x5, x6, x7, x8, x9, rfl, -⟩ := pe5.form
   have HO := Zy (Zy (ju B3 (zy HI).own) bu4 (by omega)) bu5 (by omega)
   have hs3 := B3.size
   have hs0 := (zy HI).bu.size
   have BU5 := zx (bu4.then bu5)
   have RD5 := zx rd5
   clear pe5 rd5 rd4 bu4 bu5
   obtain ⟨ti, hi0, hz0, hz1, hz2⟩ := info_parts ZJ
   go_wp2_with (at_builtin; refine wpList_append_lies _ rfl _ _ 38 rfl (w.heap.size + 1) 40 ti _ 5 80 Tryz.underlying38 hi0 hz0 hz1 hz2 rfl (by omega) _ _ _ rfl (HO.alloc _) ⟨w5.heap.size, 0, none⟩ 1 1 [.int .i64 x1, .string x2, .slice x3 x4 x5, .slice x6 x7 x8, .int .i64 x9] rfl rfl (Xz _ _ _ _ _ _ _ rfl) (by simp [Value.oneCell']) (by omega) (by unfold maxLen; omega) (by omega) (by simp; omega) (w5.heap.size + 1) (by simp) ?_; intro gg cap1 w6 hown1 hgrow hat hlt1)
   have NI := RowI.snoc (zy HI) hbl hGl B3 (zy BU5) ((zy E1).oft (mk 2 [] (rg rr) [] (pl rr : Nat))) (zy RD5) (zy PE) hown1 hgrow (by rcases hat with h | h; exact .inl h; exact .inr (by simp [h]))
   have NI' := zx NI
   clear hgrow hat hlt1 hown1 HO
   (try go_wp2_with fail)
   go_roundw
   case rel =>
    refine ⟨acc ++ [(oft (mk 2 [] (rg rr) [] (pl rr : Nat)) rr.tail).1], (oft (mk 2 [] (rg rr) [] (pl rr : Nat)) rr.tail).2, f', _, ?_, ?_, ?_, zy NI'⟩
    ·rw [zy HS]; exact seqF_one (zy ATM)
    ·have := xu (mk 2 [] (rg rr) [] (pl rr : Nat)) rr.tail; omega
    ·have := xu (mk 2 [] (rg rr) [] (pl rr : Nat)) rr.tail; rw [List.length_append, List.length_singleton]; omega
   case measure =>
    rw [(zy NI').rd.left, (zy HI).rd.left]
    have := xu (mk 2 [] (rg rr) [] (pl rr : Nat)) rr.tail
    omega
  ·rw [ef] at lku
   have e1 : (R.lk rr).1 = kd rr := rfl
   rw [e1] at lku
   have LKU := zx lku
   clear lku e1 ef
   have ATM : Hid (vo (jw dd) rr = some (.inr (mk 3 [] (rg rr) [] (pl rr : Nat), rr.tail))) := by show _ = _; unfold vo; simp [hk]
   have E1' : Ends rr.tail := hE.tail (by rw [hk]; decide)
   have hrt := qz hE.ne
   have HK := zx hk
   clear hE hk
   go_wp2_with fail
   refine wp_region_held_drew (S := (fun w' => w'.cell? ⟨b, 1, none⟩ = some (.map (some m)) ∧ w'.heap[m]? = some (.map es clock))) (by kernel_rfl) (⟨q1, hmm⟩) (fun hHeld => ?_)
   refine tkh 0 ?_ rfl (by kernel_rfl) (fun _ _ _ h => h) ?_ (by assumption) ?_
   rotate_left
   ·intro w hSw; (try dsimp only at hSw); go_simp; (try with_reducible rfl)
   try simp only [pls]
   refine tkh 1 ?_ rfl (by kernel_rfl) (fun _ _ _ h => h) ?_ (by assumption) ?_
   rotate_left
   ·intro w hSw; (try dsimp only at hSw); go_simp; (try with_reducible rfl)
   try simp only [pls]
   refine tkh 2 ?_ rfl (by kernel_rfl) (fun _ _ _ h => h) ?_ (by assumption) ?_
   rotate_left
   ·intro w hSw; (try dsimp only at hSw); go_simp; (try with_reducible rfl)
   try simp only [pls]
   refine tkh 3 ?_ rfl (by kernel_rfl) (fun _ _ _ h => h) ?_ (by assumption) ?_
   rotate_left
   ·intro w hSw; (try dsimp only at hSw); go_simp; (try with_reducible rfl)
   try simp only [pls]
   refine tkh 4 ?_ rfl (by kernel_rfl) (fun _ _ _ h => h) ?_ (by assumption) ?_
   rotate_left
   ·intro w hSw; (try dsimp only at hSw); go_simp; (try with_reducible rfl)
   try simp only [pls]
   refine wpAnyH_ready (rs := [5]) (by kernel_rfl) (by simp) ?_
   refine AllReadyH.cons rfl (fun K hK => ?_) AllReadyH.nil
   go_simp
   refine (zy CN _ zk).mono ?_; rintro e w2 ⟨v2, rfl, tv2, b2⟩; obtain ⟨a2, c2, rfl, -, -⟩ := tv2
   go_wp2_with fail
   refine hK.out _ _ (by obtain ⟨h0, h1⟩ := hHeld; exact ⟨jV b2 rfl h0, Zx b2 rfl h1⟩) (fun hHeld => ?_)
   clear hK K
   try simp only [pls]
   refine wpAnyH_ready (rs := [6]) (by kernel_rfl) (by simp) ?_
   refine AllReadyH.cons rfl (fun K hK => ?_) AllReadyH.nil
   go_simp
   refine (zy CL _ _ _ _).mono ?_; rintro e w3 ⟨rfl, b3⟩
   go_wp2_with fail
   refine hK.out _ _ (by obtain ⟨h0, h1⟩ := hHeld; exact ⟨jV b3 rfl h0, Zx b3 rfl h1⟩) (fun hHeld => ?_)
   clear hK K
   try simp only [pls]
   refine tkh 7 ?_ rfl (by kernel_rfl) (fun _ _ _ h => h) ?_ (by assumption) ?_
   rotate_left
   ·intro w hSw; (try dsimp only at hSw); (have hlk := zy LKU w hSw.2); go_simp; (try with_reducible rfl)
   try simp only [pls]
   refine tkh 8 ?_ rfl (by kernel_rfl) (fun _ _ _ h => h) ?_ (by assumption) ?_
   rotate_left
   ·intro w hSw; (try dsimp only at hSw); go_simp; (try with_reducible rfl)
   try simp only [pls]
   refine tkh 9 ?_ rfl (by kernel_rfl) (fun _ _ _ h => h) ?_ (by assumption) ?_
   rotate_left
   ·intro w hSw; (try dsimp only at hSw); go_simp; (try with_reducible rfl)
   try simp only [pls]
   refine tkh 10 ?_ rfl (by kernel_rfl) (fun _ _ _ h => h) ?_ (by assumption) ?_
   rotate_left
   ·intro w hSw; (try dsimp only at hSw); go_simp; (try with_reducible rfl)
   try simp only [pls]
   refine tkh 11 ?_ rfl (by kernel_rfl) (fun _ _ _ h => h) ?_ (by assumption) ?_
   rotate_left
   ·intro w hSw; (try dsimp only at hSw); go_simp; (try with_reducible rfl)
   try simp only [pls]
   refine tkh 12 ?_ rfl (by kernel_rfl) (fun _ _ _ h => h) ?_ (by assumption) ?_
   rotate_left
   ·intro w hSw; (try dsimp only at hSw); go_simp; (try with_reducible rfl)
   try simp only [pls]
   refine wpAnyH_done (by kernel_rfl) ?_ _
   have B3 := zw (zw (zk (k := 1) (w := wr) (B := wr.heap.size)) b2) b3
   go_wp2_with fail
   refine (octets_l w3 b G rr m d0 ((zy HI).rd.later B3) (zy HI).he (by rw [zy HK]; decide)).mono ?_
   rintro e w4 ⟨v4, rfl, pe4, rd4, bu4⟩
   have hb3 : b < w3.heap.size := by have := B3.size; have := (zy HI).rd.lt; omega
   have E1 := zx E1'
   have CO := zx (often_l w4 b G rr.tail m d0 rd4 E1' (New w3 w4) (fun g hg => ⟨hg.2, by have := hg.1; omega⟩) v4 (mk 3 [] (rg rr) [] (pl rr : Nat)) pe4)
   have hs4 := bu4.size
   clear E1' CN CL LKU q1 hmm
   obtain ⟨z1, z2, z3, z4, z5, z6, z7, z8, z9, rfl, -⟩ := pe4.form
   clear pe4
   go_wp2_with fail
   refine (zy CO).mono ?_
   rintro e w5 ⟨v5, rfl, pe5, rd5, bu5⟩
   clear CO
   have hs5 := bu5.size
   have PE := zx (pe_new pe5 hs4 hs5)
   obtain ⟨x1, x2, x3, x4, x5, x6, x7, x8, x9, rfl, -⟩ := pe5.form
   have HO := Zy (Zy (ju B3 (zy HI).own) bu4 (by omega)) bu5 (by omega)
   have hs3 := B3.size
   have hs0 := (zy HI).bu.size
   have BU5 := zx (bu4.then bu5)
   have RD5 := zx rd5
   clear pe5 rd5 rd4 bu4 bu5
   obtain ⟨ti, hi0, hz0, hz1, hz2⟩ := info_parts ZJ
   go_wp2_with (at_builtin; refine wpList_append_lies _ rfl _ _ 38 rfl (w.heap.size + 1) 40 ti _ 5 80 Tryz.underlying38 hi0 hz0 hz1 hz2 rfl (by omega) _ _ _ rfl (HO.alloc _) ⟨w5.heap.size, 0, none⟩ 1 1 [.int .i64 x1, .string x2, .slice x3 x4 x5, .slice x6 x7 x8, .int .i64 x9] rfl rfl (Xz _ _ _ _ _ _ _ rfl) (by simp [Value.oneCell']) (by omega) (by unfold maxLen; omega) (by omega) (by simp; omega) (w5.heap.size + 1) (by simp) ?_; intro gg cap1 w6 hown1 hgrow hat hlt1)
   have NI := RowI.snoc (zy HI) hbl hGl B3 (zy BU5) ((zy E1).oft (mk 3 [] (rg rr) [] (pl rr : Nat))) (zy RD5) (zy PE) hown1 hgrow (by rcases hat with h | h; exact .inl h; exact .inr (by simp [h]))
   have NI' := zx NI
   clear hgrow hat hlt1 hown1 HO
   (try go_wp2_with fail)
   go_roundw
   case rel =>
    refine ⟨acc ++ [(oft (mk 3 [] (rg rr) [] (pl rr : Nat)) rr.tail).1], (oft (mk 3 [] (rg rr) [] (pl rr : Nat)) rr.tail).2, f', _, ?_, ?_, ?_, zy NI'⟩
    ·rw [zy HS]; exact seqF_one (zy ATM)
    ·have := xu (mk 3 [] (rg rr) [] (pl rr : Nat)) rr.tail; omega
    ·have := xu (mk 3 [] (rg rr) [] (pl rr : Nat)) rr.tail; rw [List.length_append, List.length_singleton]; omega
   case measure =>
    rw [(zy NI').rd.left, (zy HI).rd.left]
    have := xu (mk 3 [] (rg rr) [] (pl rr : Nat)) rr.tail
    omega
  ·rw [ef] at lku
   have e1 : (R.lk rr).1 = kd rr := rfl
   rw [e1] at lku
   have LKU := zx lku
   clear lku e1 ef
   have CG := zx (fun W (bW : Below wr.heap.size wr W) => zy HGR' W b G rr m (by rw [zy HD0]; exact (zy HI).rd.later bW) hE hk (by omega) ((zy HI).mq.later bW))
   rw [zy HD0] at CG
   have ATM := zx (atom_grp (grp := jw dd) hk)
   have hrt := qz hE.ne
   clear hE
   go_wp2_with fail
   refine wp_region_held_drew (S := (fun w' => w'.cell? ⟨b, 1, none⟩ = some (.map (some m)) ∧ w'.heap[m]? = some (.map es clock))) (by kernel_rfl) (⟨q1, hmm⟩) (fun hHeld => ?_)
   refine tkh 0 ?_ rfl (by kernel_rfl) (fun _ _ _ h => h) ?_ (by assumption) ?_
   rotate_left
   ·intro w hSw; (try dsimp only at hSw); go_simp; (try with_reducible rfl)
   try simp only [pls]
   refine tkh 1 ?_ rfl (by kernel_rfl) (fun _ _ _ h => h) ?_ (by assumption) ?_
   rotate_left
   ·intro w hSw; (try dsimp only at hSw); go_simp; (try with_reducible rfl)
   try simp only [pls]
   refine tkh 2 ?_ rfl (by kernel_rfl) (fun _ _ _ h => h) ?_ (by assumption) ?_
   rotate_left
   ·intro w hSw; (try dsimp only at hSw); go_simp; (try with_reducible rfl)
   try simp only [pls]
   refine tkh 3 ?_ rfl (by kernel_rfl) (fun _ _ _ h => h) ?_ (by assumption) ?_
   rotate_left
   ·intro w hSw; (try dsimp only at hSw); go_simp; (try with_reducible rfl)
   try simp only [pls]
   refine tkh 4 ?_ rfl (by kernel_rfl) (fun _ _ _ h => h) ?_ (by assumption) ?_
   rotate_left
   ·intro w hSw; (try dsimp only at hSw); go_simp; (try with_reducible rfl)
   try simp only [pls]
   refine wpAnyH_ready (rs := [5]) (by kernel_rfl) (by simp) ?_
   refine AllReadyH.cons rfl (fun K hK => ?_) AllReadyH.nil
   go_simp
   refine (zy CN _ zk).mono ?_; rintro e w2 ⟨v2, rfl, tv2, b2⟩; obtain ⟨a2, c2, rfl, -, -⟩ := tv2
   go_wp2_with fail
   refine hK.out _ _ (by obtain ⟨h0, h1⟩ := hHeld; exact ⟨jV b2 rfl h0, Zx b2 rfl h1⟩) (fun hHeld => ?_)
   clear hK K
   try simp only [pls]
   refine wpAnyH_ready (rs := [6]) (by kernel_rfl) (by simp) ?_
   refine AllReadyH.cons rfl (fun K hK => ?_) AllReadyH.nil
   go_simp
   refine (zy CL _ _ _ _).mono ?_; rintro e w3 ⟨rfl, b3⟩
   go_wp2_with fail
   refine hK.out _ _ (by obtain ⟨h0, h1⟩ := hHeld; exact ⟨jV b3 rfl h0, Zx b3 rfl h1⟩) (fun hHeld => ?_)
   clear hK K
   try simp only [pls]
   refine tkh 7 ?_ rfl (by kernel_rfl) (fun _ _ _ h => h) ?_ (by assumption) ?_
   rotate_left
   ·intro w hSw; (try dsimp only at hSw); (have hlk := zy LKU w hSw.2); go_simp; (try with_reducible rfl)
   try simp only [pls]
   refine tkh 8 ?_ rfl (by kernel_rfl) (fun _ _ _ h => h) ?_ (by assumption) ?_
   rotate_left
   ·intro w hSw; (try dsimp only at hSw); go_simp; (try with_reducible rfl)
   try simp only [pls]
   refine tkh 9 ?_ rfl (by kernel_rfl) (fun _ _ _ h => h) ?_ (by assumption) ?_
   rotate_left
   ·intro w hSw; (try dsimp only at hSw); go_simp; (try with_reducible rfl)
   try simp only [pls]
   refine tkh 10 ?_ rfl (by kernel_rfl) (fun _ _ _ h => h) ?_ (by assumption) ?_
   rotate_left
   ·intro w hSw; (try dsimp only at hSw); go_simp; (try with_reducible rfl)
   try simp only [pls]
   refine tkh 11 ?_ rfl (by kernel_rfl) (fun _ _ _ h => h) ?_ (by assumption) ?_
   rotate_left
   ·intro w hSw; (try dsimp only at hSw); go_simp; (try with_reducible rfl)
   try simp only [pls]
   refine tkh 12 ?_ rfl (by kernel_rfl) (fun _ _ _ h => h) ?_ (by assumption) ?_
   rotate_left
   ·intro w hSw; (try dsimp only at hSw); go_simp; (try with_reducible rfl)
   try simp only [pls]
   refine wpAnyH_done (by kernel_rfl) ?_ _
   have B3 := zw (zw (zk (k := 1) (w := wr) (B := wr.heap.size)) b2) b3
   go_wp2_with fail
   refine (zy CG _ B3).mono ?_
   clear CG
   rintro e w4 (⟨v4, p4, r4, eg, rfl, pe4, E1', hl4, rd4, bu4⟩ | ⟨q4, y4, eg, rfl, bu4⟩)
   ·have ATN : Hid (vo (jw dd) rr = some (.inr (p4, r4))) := by show _ = _; rw [zy ATM, eg]
    clear ATM eg
    have hb3 : b < w3.heap.size := by have := B3.size; have := (zy HI).rd.lt; omega
    have E1 := zx E1'
    have CO := zx (often_l w4 b G r4 m d0 rd4 E1' (New w3 w4) (fun g hg => ⟨hg.2, by have := hg.1; omega⟩) v4 p4 pe4)
    have hs4 := bu4.size
    clear E1' CN CL LKU q1 hmm
    obtain ⟨z1, z2, z3, z4, z5, z6, z7, z8, z9, rfl, -⟩ := pe4.form
    clear pe4
    go_wp2_with fail
    refine (zy CO).mono ?_
    rintro e w5 ⟨v5, rfl, pe5, rd5, bu5⟩
    clear CO
    have hs5 := bu5.size
    have PE := zx (pe_new pe5 hs4 hs5)
    obtain ⟨x1, x2, x3, x4, x5, x6, x7, x8, x9, rfl, -⟩ := pe5.form
    have HO := Zy (Zy (ju B3 (zy HI).own) bu4 (by omega)) bu5 (by omega)
    have hs3 := B3.size
    have hs0 := (zy HI).bu.size
    have BU5 := zx (bu4.then bu5)
    have RD5 := zx rd5
    clear pe5 rd5 rd4 bu4 bu5
    obtain ⟨ti, hi0, hz0, hz1, hz2⟩ := info_parts ZJ
    go_wp2_with (at_builtin; refine wpList_append_lies _ rfl _ _ 38 rfl (w.heap.size + 1) 40 ti _ 5 80 Tryz.underlying38 hi0 hz0 hz1 hz2 rfl (by omega) _ _ _ rfl (HO.alloc _) ⟨w5.heap.size, 0, none⟩ 1 1 [.int .i64 x1, .string x2, .slice x3 x4 x5, .slice x6 x7 x8, .int .i64 x9] rfl rfl (Xz _ _ _ _ _ _ _ rfl) (by simp [Value.oneCell']) (by omega) (by unfold maxLen; omega) (by omega) (by simp; omega) (w5.heap.size + 1) (by simp) ?_; intro gg cap1 w6 hown1 hgrow hat hlt1)
    have NI := RowI.snoc (zy HI) hbl hGl B3 (zy BU5) ((zy E1).oft p4) (zy RD5) (zy PE) hown1 hgrow (by rcases hat with h | h; exact .inl h; exact .inr (by simp [h]))
    have NI' := zx NI
    clear hgrow hat hlt1 hown1 HO
    (try go_wp2_with fail)
    go_roundw
    case rel =>
     refine ⟨acc ++ [(oft p4 r4).1], (oft p4 r4).2, f', _, ?_, ?_, ?_, zy NI'⟩
     ·rw [zy HS]; exact seqF_one (zy ATN)
     ·have := xu p4 r4; omega
     ·have := xu p4 r4; rw [List.length_append, List.length_singleton]; omega
    case measure =>
     rw [(zy NI').rd.left, (zy HI).rd.left]
     have := xu p4 r4
     omega
   ·have FIN : Hid (seqL (jw dd) r = .inl (q4, y4)) := by show _ = _; rw [zy HS]; exact seqF_bad (by rw [zy ATM, eg])
    have BF := zx (((zy HI).bu.then (Bu.of B3)).then bu4)
    clear ATM eg CN CL LKU q1 hmm
    unfold xj
    go_wp2_with fail
    exact ⟨rfl, .inr ⟨q4, y4, zy FIN, rfl, zy BF⟩⟩
  ·rw [ef] at lku
   have e1 : (R.lk rr).1 = kd rr := rfl
   rw [e1] at lku
   have LKU := zx lku
   clear lku e1 ef
   have FIN : Hid (seqL (jw dd) r = .inr (R.ZV 4 acc (pl r : Nat), rr)) := by show _ = _; rw [zy HS]; exact seqF_none hk
   have CO := zx (fun W (bW : Below wr.heap.size wr W) => theOne_l 4 (pl r : Nat) (by unfold zW; omega) (zy HQ) (fun g => w.heap.size < g ∧ g < W.heap.size) q5 acc.length c5 acc W (fun g hg => hg.2) ((zy HI).parts rfl bW))
   clear hE hk
   go_wp2_with fail
   refine wp_region_held_drew (S := (fun w' => w'.cell? ⟨b, 1, none⟩ = some (.map (some m)) ∧ w'.heap[m]? = some (.map es clock))) (by kernel_rfl) (⟨q1, hmm⟩) (fun hHeld => ?_)
   refine tkh 0 ?_ rfl (by kernel_rfl) (fun _ _ _ h => h) ?_ (by assumption) ?_
   rotate_left
   ·intro w hSw; (try dsimp only at hSw); go_simp; (try with_reducible rfl)
   try simp only [pls]
   refine tkh 1 ?_ rfl (by kernel_rfl) (fun _ _ _ h => h) ?_ (by assumption) ?_
   rotate_left
   ·intro w hSw; (try dsimp only at hSw); go_simp; (try with_reducible rfl)
   try simp only [pls]
   refine tkh 2 ?_ rfl (by kernel_rfl) (fun _ _ _ h => h) ?_ (by assumption) ?_
   rotate_left
   ·intro w hSw; (try dsimp only at hSw); go_simp; (try with_reducible rfl)
   try simp only [pls]
   refine tkh 3 ?_ rfl (by kernel_rfl) (fun _ _ _ h => h) ?_ (by assumption) ?_
   rotate_left
   ·intro w hSw; (try dsimp only at hSw); go_simp; (try with_reducible rfl)
   try simp only [pls]
   refine tkh 4 ?_ rfl (by kernel_rfl) (fun _ _ _ h => h) ?_ (by assumption) ?_
   rotate_left
   ·intro w hSw; (try dsimp only at hSw); go_simp; (try with_reducible rfl)
   try simp only [pls]
   refine wpAnyH_ready (rs := [5]) (by kernel_rfl) (by simp) ?_
   refine AllReadyH.cons rfl (fun K hK => ?_) AllReadyH.nil
   go_simp
   refine (zy CN _ zk).mono ?_; rintro e w2 ⟨v2, rfl, tv2, b2⟩; obtain ⟨a2, c2, rfl, -, -⟩ := tv2
   go_wp2_with fail
   refine hK.out _ _ (by obtain ⟨h0, h1⟩ := hHeld; exact ⟨jV b2 rfl h0, Zx b2 rfl h1⟩) (fun hHeld => ?_)
   clear hK K
   try simp only [pls]
   refine wpAnyH_ready (rs := [6]) (by kernel_rfl) (by simp) ?_
   refine AllReadyH.cons rfl (fun K hK => ?_) AllReadyH.nil
   go_simp
   refine (zy CL _ _ _ _).mono ?_; rintro e w3 ⟨rfl, b3⟩
   go_wp2_with fail
   refine hK.out _ _ (by obtain ⟨h0, h1⟩ := hHeld; exact ⟨jV b3 rfl h0, Zx b3 rfl h1⟩) (fun hHeld => ?_)
   clear hK K
   try simp only [pls]
   refine tkh 7 ?_ rfl (by kernel_rfl) (fun _ _ _ h => h) ?_ (by assumption) ?_
   rotate_left
   ·intro w hSw; (try dsimp only at hSw); (have hlk := zy LKU w hSw.2); go_simp; (try with_reducible rfl)
   try simp only [pls]
   refine tkh 8 ?_ rfl (by kernel_rfl) (fun _ _ _ h => h) ?_ (by assumption) ?_
   rotate_left
   ·intro w hSw; (try dsimp only at hSw); go_simp; (try with_reducible rfl)
   try simp only [pls]
   refine tkh 9 ?_ rfl (by kernel_rfl) (fun _ _ _ h => h) ?_ (by assumption) ?_
   rotate_left
   ·intro w hSw; (try dsimp only at hSw); go_simp; (try with_reducible rfl)
   try simp only [pls]
   refine tkh 10 ?_ rfl (by kernel_rfl) (fun _ _ _ h => h) ?_ (by assumption) ?_
   rotate_left
   ·intro w hSw; (try dsimp only at hSw); go_simp; (try with_reducible rfl)
   try simp only [pls]
   refine tkh 11 ?_ rfl (by kernel_rfl) (fun _ _ _ h => h) ?_ (by assumption) ?_
   rotate_left
   ·intro w hSw; (try dsimp only at hSw); go_simp; (try with_reducible rfl)
   try simp only [pls]
   refine tkh 12 ?_ rfl (by kernel_rfl) (fun _ _ _ h => h) ?_ (by assumption) ?_
   rotate_left
   ·intro w hSw; (try dsimp only at hSw); go_simp; (try with_reducible rfl)
   try simp only [pls]
   refine wpAnyH_done (by kernel_rfl) ?_ _
   have B3 := zw (zw (zk (k := 1) (w := wr) (B := wr.heap.size)) b2) b3
   clear CN CL LKU q1 hmm
   go_wp2_with fail
   refine (zy CO _ B3).mono ?_
   rintro e w4 ⟨v4, rfl, pe4, b4⟩
   clear CO
   have B4 := zw B3 b4
   have PE := zx pe4
   obtain ⟨z1, z2, z3, z4, z5, z6, z7, z8, z9, rfl, -⟩ := pe4.form
   clear pe4
   have hI := zy HI
   have OUT : w4.heap[w.heap.size]? = some (.cells #[.int .i64 0, .string ⟨#[]⟩, .slice none 0 0, .slice none 0 0, .int .i64 0] 40) := (B4.block _ (Array.getElem?_eq_some_iff.1 hI.out).1).trans hI.out
   obtain ⟨⟨y0, y1, y2, y3, y4⟩, k0, k1, k2, k3, k4⟩ := yV OUT
   clear hI
   go_wp2_with fail
   (try simp only [Exit.inBlock, Exit.then])
   have s4 := b4.size
   have X5 := fun (k : Nat) (hk : k ≠ w.heap.size) => xQ (W := w4) hk (.int .i64 z1) (.string z2) (.slice z3 z4 z5) (.slice z6 z7 z8) (.int .i64 z9)
   have KX : KR w4 (((((w4.setCell ⟨w.heap.size, 0, none⟩ (.int .i64 z1)).setCell ⟨w.heap.size, 1, none⟩ (.string z2)).setCell ⟨w.heap.size, 2, none⟩ (.slice z3 z4 z5)).setCell ⟨w.heap.size, 3, none⟩ (.slice z6 z7 z8)).setCell ⟨w.heap.size, 4, none⟩ (.int .i64 z9)) := fun g' cs fr hk => by
    rw [X5 g' (yz hk OUT (by decide))]; exact hk
   refine bodyPost_ret (v := .agg #[.int .i64 z1, .string z2, .slice z3 z4 z5, .slice z6 z7 z8, .int .i64 z9]) ?_ rfl (.inl ⟨_, _, rr, zy FIN, rfl, ?_, (zy HI).he, by omega, ?_, ?_⟩)
   ·exact jj rfl rfl (Zq OUT _ _ _ _ _)
   ·refine (zy PE).kept (fun g hg => ⟨⟨by have := hg.1; omega, by simp; have := hg.2; omega⟩, X5 g (by have := hg.1; omega)⟩) KX
   ·exact ((zy HI).rd.later B4).kept (X5 b (by omega)) (X5 G (by omega)) KX
   ·exact ((((((zy HI).bu.then (Bu.of B4)).setTop (Nat.le_refl _) _ _).setTop (Nat.le_refl _) _ _).setTop (Nat.le_refl _) _ _).setTop (Nat.le_refl _) _ _).setTop (Nat.le_refl _) _ _
end Go.Proofs.YtnfgobgflcmepaaGreatDoor.R
