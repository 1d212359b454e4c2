/- Parts of the proof of NullTells that stand ahead of it (31: RdAtom, RdOften, RdMap, RdRow, FlBase, FlPut, FlFits, FlLeaf, FlWays, FlSeq). -/
import Derived.Test.YtnfgobgflcmepaaGreatDoorNullTellsM30
import Derived.Laws.StructEq
import Derived.Test.YtnfgobgflcmepaaGreatDoorNullTellsM2
import Derived.Deep.QuietTactic
import Derived.BigQuiet
set_option linter.unusedVariables false
set_option linter.unusedSimpArgs false
set_option maxRecDepth 20000
set_option maxHeartbeats 16000000
namespace Go.Proofs.YtnfgobgflcmepaaGreatDoor.R
open Go.RowKit Go.Proofs.YtnfgobgflcmepaaGreatDoor.T
def New (w w' : World) : Nat → Prop := fun g => w.heap.size ≤ g ∧ g < w'.heap.size
theorem vj {q : Nat} (h : q ≤ 1000000) : zW (q : Int) := by unfold zW; omega
theorem TkR.kr {w X : World} {v : Value} {r : List TN} (h : TkR w v r) (k : KR w X) : TkR X v r := TkR.kept h k
theorem theOne_l (k q : Int) (hk : zW k) (hq : zW q) (D : Nat → Prop) (a : Option Addr) (len cap : Nat) (L : List PT) (w : World) (hD : ∀ g, D g → g < w.heap.size) (h : PartsE D w a len cap L) :
  Calls Tryz.prog 167 #[.int .i64 k, .slice a len cap, .int .i64 q] w fun e w' => ∃ v, e = .returned v ∧ PartE D w' v (R.ZV k L q) ∧ Below w.heap.size w w' := by
 have KEEP : ∀ o, ∀ g, D g → D g ∧ (w.alloc o).heap[g]? = w.heap[g]? := fun o g hg => ⟨hg, (Below.new1 o).block g (hD g hg)⟩
 obtain ⟨n, cs, hl, h5, hc⟩ := h
 by_cases h1 : len = 1
 ·subst h1
  obtain ⟨p, rfl⟩ : ∃ x, L = [x] := List.length_eq_one_iff.1 hl
  obtain ⟨c0, c1, c2, c3, c4, cs', rfl, hv, -⟩ := hc
  obtain ⟨l1, l2, h5⟩ := h5
  obtain ⟨g, off, rfl, dg, k0⟩ := h5 0 c0 rfl
  have key : ∀ j u, (c0 :: c1 :: c2 :: c3 :: c4 :: cs')[j]? = some u → w.cell? ⟨g, off + j, none⟩ = some u := fun j u hu => by
   obtain ⟨g', off', e, -, hc⟩ := h5 j u hu
   injection e with e
   injection e with e1 e2
   subst e1; subst e2
   exact hc
  have HB : ∀ o, Below w.heap.size w (w.alloc o) := fun o => Below.new1 o
  have hg := hD g dg
  rw [Nat.add_zero] at k0
  have q0 : ∀ o, (w.alloc o).cell? ⟨g, off, none⟩ = some c0 := fun o => ((HB o).cell hg).trans k0
  have q1 : ∀ o, (w.alloc o).cell? ⟨g, off + 1, none⟩ = some c1 := fun o => ((HB o).cell hg).trans (key 1 c1 rfl)
  have q2 : ∀ o, (w.alloc o).cell? ⟨g, off + 2, none⟩ = some c2 := fun o => ((HB o).cell hg).trans (key 2 c2 rfl)
  have q3 : ∀ o, (w.alloc o).cell? ⟨g, off + 3, none⟩ = some c3 := fun o => ((HB o).cell hg).trans (key 3 c3 rfl)
  have q4 : ∀ o, (w.alloc o).cell? ⟨g, off + 4, none⟩ = some c4 := fun o => ((HB o).cell hg).trans (key 4 c4 rfl)
  have HV := zx (fun o => PartE.kept (D' := D) ⟨n, hv⟩ (KEEP o) (KR.of (HB o)))
  have fm := PartE.form (D := D) (w := w) ⟨n, hv⟩
  obtain ⟨x1, x2, x3, x4, x5, x6, x7, x8, x9, ev, -⟩ := fm
  simp only [Value.agg.injEq, Array.mk.injEq, List.cons.injEq, and_true] at ev
  obtain ⟨rfl, rfl, rfl, rfl, rfl⟩ := ev
  unfold maxLen at l2
  clear key k0 h5 hv KEEP HB
  go_enter Tryz.func167, Tryz.ntmps167
  go_wp2_with fail
  (try simp only [Exit.inBlock, Exit.then])
  refine bodyPost_ret (v := .agg #[.int .i64 x1, .string x2, .slice x3 x4 x5, .slice x6 x7 x8, .int .i64 x9]) ?_ rfl ⟨_, rfl, zy HV _, Below.new1 _⟩
  exact jj rfl rfl (heap_alloc_new _ _)
 ·have e : R.ZV k L q = mk k [] [] L q := by
   unfold R.ZV
   split
   ·simp at hl; omega
   ·rfl
  have t1 : ((len : Int) == 1) = false := beq_eq_false_iff_ne.2 (by omega)
  rw [e]
  have HV := zx (fun o => PartE.node k q hk hq (w := w.alloc o) (D := D) ⟨n, cs, hl, h5.kept (KEEP o), PtC.mono (PartV.kept (KEEP o) (KR.of (Below.new1 o)) n) _ _ hc⟩)
  clear h5 hc KEEP e
  go_enter Tryz.func167, Tryz.ntmps167
  go_wp2_with fail
  (try simp only [Exit.inBlock, Exit.then])
  refine bodyPost_ret (v := .agg #[.int .i64 k, .string ⟨#[]⟩, .slice none 0 0, .slice a len cap, .int .i64 q]) ?_ rfl ⟨_, rfl, zy HV _, Below.new1 _⟩
  exact jj rfl rfl (heap_alloc_new _ _)
theorem call_l (w : World) (b G : Nat) (r : List TN) (m : Nat) (d : Int) (h : Rd w b G r m d) (hr : Ends r) (hk : kd r ≠ -1) :
  Calls Tryz.prog 112 #[.pointer (some ⟨b, 0, none⟩)] w fun e w' => ∃ v, e = .returned v ∧ PartE (New w w') w' v (mk 0 (tx r) [] [] (pl r : Nat)) ∧ Rd w' b G r.tail m d ∧ Bu b w w' := by
 have CT := zx (fun W (bW : Below w.heap.size w W) => vu W b G r m d (h.later bW) hr.ne (hr.tail hk).ne)
 have hbl := h.lt
 have hGl := h.ltG
 have HX := zx hr.bytes
 have HQ := zx (vj hr.pl)
 have HB : ∀ o, Below w.heap.size w (w.alloc o) := fun o => Below.new1 o
 clear h hr hk
 go_enter Tryz.func112, Tryz.ntmps112
 go_wp2_with fail
 refine (zy CT _ (HB _)).mono ?_
 rintro e w1 ⟨v, rfl, ⟨a1, c1, rfl, hrs, hys⟩, hr2, bu⟩
 clear CT
 have HRS := zx (And.intro hrs hys)
 have G1 := bu.at (heap_alloc_new w _) (show w.heap.size ≠ b by omega)
 have hs1 : w.heap.size < w1.heap.size := (Array.getElem?_eq_some_iff.1 G1).1
 obtain ⟨⟨y0, y1, y2, y3, y4⟩, z0, z1, z2, z3, z4⟩ := yV G1
 clear hrs hys
 go_wp2_with fail
 (try simp only [Exit.inBlock, Exit.then])
 have BX := (Bu.of (b := b) (HB (.cells #[.int .i64 0, .string ⟨#[]⟩, .slice none 0 0, .slice none 0 0, .int .i64 0] 40))).then bu
 have KX : KR w1 ((((((w1.setCell ⟨w.heap.size, 0, none⟩ (.int .i64 0)).setCell ⟨w.heap.size, 1, none⟩ (.string (strOfNums (tx r)))).setCell ⟨w.heap.size, 2, none⟩ (.slice none 0 0)).setCell ⟨w.heap.size, 3, none⟩ (.slice none 0 0)).setCell ⟨w.heap.size, 4, none⟩ (.int .i64 (pl r : Nat))).alloc (.cells #[.int .i64 (kd r), .string (strOfNums (tx r)), .slice a1 (rg r).length c1, .int .i64 (pl r : Nat)] 124)) := fun g' cs fr hk => by
  have n2 := yz hk G1 (by decide)
  exact zK (zj (zj (zj (zj (zj hk n2 _) n2 _) n2 _) n2 _) n2 _) _
 refine bodyPost_ret (v := .agg #[.int .i64 0, .string (strOfNums (tx r)), .slice none 0 0, .slice none 0 0, .int .i64 (pl r : Nat)]) ?_ rfl ⟨_, rfl, ?_, ?_, ?_⟩
 ·exact jj rfl rfl (zK (Zq G1 _ _ _ _ _) _)
 ·exact PartE.leaf _ _ 0 (tx r) [] (pl r : Nat) none 0 (by unfold zW; omega) (zy HX) (zy HQ) (Rs.nil _) (Ty.nil _)
 ·have nb : b ≠ w.heap.size := by omega
  have nG : G ≠ w.heap.size := by omega
  refine hr2.kept ?_ ?_ KX
  ·rw [(Below.new1 _).block b (by simp; have := hr2.lt; omega)]; exact xQ nb _ _ _ _ _
  ·rw [(Below.new1 _).block G (by simp; have := hr2.ltG; omega)]; exact xQ nG _ _ _ _ _
 ·exact (((((BX.setTop (Nat.le_refl _) _ _).setTop (Nat.le_refl _) _ _).setTop (Nat.le_refl _) _ _).setTop (Nat.le_refl _) _ _).setTop (Nat.le_refl _) _ _).alloc _
theorem text_l (w : World) (b G : Nat) (r : List TN) (m : Nat) (d : Int) (h : Rd w b G r m d) (hr : Ends r) (hk : kd r ≠ -1) :
  Calls Tryz.prog 113 #[.pointer (some ⟨b, 0, none⟩)] w fun e w' => ∃ v, e = .returned v ∧ PartE (New w w') w' v (mk 1 (tx r) [] [] (pl r : Nat)) ∧ Rd w' b G r.tail m d ∧ Bu b w w' := by
 have CT := zx (fun W (bW : Below w.heap.size w W) => vu W b G r m d (h.later bW) hr.ne (hr.tail hk).ne)
 have hbl := h.lt
 have hGl := h.ltG
 have HX := zx hr.bytes
 have HQ := zx (vj hr.pl)
 have HB : ∀ o, Below w.heap.size w (w.alloc o) := fun o => Below.new1 o
 clear h hr hk
 go_enter Tryz.func113, Tryz.ntmps113
 go_wp2_with fail
 refine (zy CT _ (HB _)).mono ?_
 rintro e w1 ⟨v, rfl, ⟨a1, c1, rfl, hrs, hys⟩, hr2, bu⟩
 clear CT
 have HRS := zx (And.intro hrs hys)
 have G1 := bu.at (heap_alloc_new w _) (show w.heap.size ≠ b by omega)
 have hs1 : w.heap.size < w1.heap.size := (Array.getElem?_eq_some_iff.1 G1).1
 obtain ⟨⟨y0, y1, y2, y3, y4⟩, z0, z1, z2, z3, z4⟩ := yV G1
 clear hrs hys
 go_wp2_with fail
 (try simp only [Exit.inBlock, Exit.then])
 have BX := (Bu.of (b := b) (HB (.cells #[.int .i64 0, .string ⟨#[]⟩, .slice none 0 0, .slice none 0 0, .int .i64 0] 40))).then bu
 have KX : KR w1 ((((((w1.setCell ⟨w.heap.size, 0, none⟩ (.int .i64 1)).setCell ⟨w.heap.size, 1, none⟩ (.string (strOfNums (tx r)))).setCell ⟨w.heap.size, 2, none⟩ (.slice none 0 0)).setCell ⟨w.heap.size, 3, none⟩ (.slice none 0 0)).setCell ⟨w.heap.size, 4, none⟩ (.int .i64 (pl r : Nat))).alloc (.cells #[.int .i64 (kd r), .string (strOfNums (tx r)), .slice a1 (rg r).length c1, .int .i64 (pl r : Nat)] 124)) := fun g' cs fr hk => by
  have n2 := yz hk G1 (by decide)
  exact zK (zj (zj (zj (zj (zj hk n2 _) n2 _) n2 _) n2 _) n2 _) _
 refine bodyPost_ret (v := .agg #[.int .i64 1, .string (strOfNums (tx r)), .slice none 0 0, .slice none 0 0, .int .i64 (pl r : Nat)]) ?_ rfl ⟨_, rfl, ?_, ?_, ?_⟩
 ·exact jj rfl rfl (zK (Zq G1 _ _ _ _ _) _)
 ·exact PartE.leaf _ _ 1 (tx r) [] (pl r : Nat) none 0 (by unfold zW; omega) (zy HX) (zy HQ) (Rs.nil _) (Ty.nil _)
 ·have nb : b ≠ w.heap.size := by omega
  have nG : G ≠ w.heap.size := by omega
  refine hr2.kept ?_ ?_ KX
  ·rw [(Below.new1 _).block b (by simp; have := hr2.lt; omega)]; exact xQ nb _ _ _ _ _
  ·rw [(Below.new1 _).block G (by simp; have := hr2.ltG; omega)]; exact xQ nG _ _ _ _ _
 ·exact (((((BX.setTop (Nat.le_refl _) _ _).setTop (Nat.le_refl _) _ _).setTop (Nat.le_refl _) _ _).setTop (Nat.le_refl _) _ _).setTop (Nat.le_refl _) _ _).alloc _
theorem set_l (w : World) (b G : Nat) (r : List TN) (m : Nat) (d : Int) (h : Rd w b G r m d) (hr : Ends r) (hk : kd r ≠ -1) :
  Calls Tryz.prog 114 #[.pointer (some ⟨b, 0, none⟩)] w fun e w' => ∃ v, e = .returned v ∧ PartE (New w w') w' v (mk 2 [] (rg r) [] (pl r : Nat)) ∧ Rd w' b G r.tail m d ∧ Bu b w w' := by
 have CT := zx (fun W (bW : Below w.heap.size w W) => vu W b G r m d (h.later bW) hr.ne (hr.tail hk).ne)
 have hbl := h.lt
 have hGl := h.ltG
 have HX := zx hr.bytes
 have HQ := zx (vj hr.pl)
 have HB : ∀ o, Below w.heap.size w (w.alloc o) := fun o => Below.new1 o
 clear h hr hk
 go_enter Tryz.func114, Tryz.ntmps114
 go_wp2_with fail
 refine (zy CT _ (HB _)).mono ?_
 rintro e w1 ⟨v, rfl, ⟨a1, c1, rfl, hrs, hys⟩, hr2, bu⟩
 clear CT
 have HRS := zx (And.intro hrs hys)
 have G1 := bu.at (heap_alloc_new w _) (show w.heap.size ≠ b by omega)
 have hs1 : w.heap.size < w1.heap.size := (Array.getElem?_eq_some_iff.1 G1).1
 obtain ⟨⟨y0, y1, y2, y3, y4⟩, z0, z1, z2, z3, z4⟩ := yV G1
 clear hrs hys
 go_wp2_with fail
 (try simp only [Exit.inBlock, Exit.then])
 have BX := (Bu.of (b := b) (HB (.cells #[.int .i64 0, .string ⟨#[]⟩, .slice none 0 0, .slice none 0 0, .int .i64 0] 40))).then bu
 have KX : KR w1 ((((((w1.setCell ⟨w.heap.size, 0, none⟩ (.int .i64 2)).setCell ⟨w.heap.size, 1, none⟩ (.string ⟨#[]⟩)).setCell ⟨w.heap.size, 2, none⟩ (.slice a1 (rg r).length c1)).setCell ⟨w.heap.size, 3, none⟩ (.slice none 0 0)).setCell ⟨w.heap.size, 4, none⟩ (.int .i64 (pl r : Nat))).alloc (.cells #[.int .i64 (kd r), .string (strOfNums (tx r)), .slice a1 (rg r).length c1, .int .i64 (pl r : Nat)] 124)) := fun g' cs fr hk => by
  have n2 := yz hk G1 (by decide)
  exact zK (zj (zj (zj (zj (zj hk n2 _) n2 _) n2 _) n2 _) n2 _) _
 refine bodyPost_ret (v := .agg #[.int .i64 2, .string ⟨#[]⟩, .slice a1 (rg r).length c1, .slice none 0 0, .int .i64 (pl r : Nat)]) ?_ rfl ⟨_, rfl, ?_, ?_, ?_⟩
 ·exact jj rfl rfl (zK (Zq G1 _ _ _ _ _) _)
 ·exact PartE.leaf _ _ 2 [] (rg r) (pl r : Nat) a1 c1 (by unfold zW; omega) (fun z hz => by cases hz) (zy HQ) (vJ KX (zy HRS).1 (zy HRS).2).1 (vJ KX (zy HRS).1 (zy HRS).2).2
 ·have nb : b ≠ w.heap.size := by omega
  have nG : G ≠ w.heap.size := by omega
  refine hr2.kept ?_ ?_ KX
  ·rw [(Below.new1 _).block b (by simp; have := hr2.lt; omega)]; exact xQ nb _ _ _ _ _
  ·rw [(Below.new1 _).block G (by simp; have := hr2.ltG; omega)]; exact xQ nG _ _ _ _ _
 ·exact (((((BX.setTop (Nat.le_refl _) _ _).setTop (Nat.le_refl _) _ _).setTop (Nat.le_refl _) _ _).setTop (Nat.le_refl _) _ _).setTop (Nat.le_refl _) _ _).alloc _
theorem octets_l (w : World) (b G : Nat) (r : List TN) (m : Nat) (d : Int) (h : Rd w b G r m d) (hr : Ends r) (hk : kd r ≠ -1) :
  Calls Tryz.prog 115 #[.pointer (some ⟨b, 0, none⟩)] w fun e w' => ∃ v, e = .returned v ∧ PartE (New w w') w' v (mk 3 [] (rg r) [] (pl r : Nat)) ∧ Rd w' b G r.tail m d ∧ Bu b w w' := by
 have CT := zx (fun W (bW : Below w.heap.size w W) => vu W b G r m d (h.later bW) hr.ne (hr.tail hk).ne)
 have hbl := h.lt
 have hGl := h.ltG
 have HX := zx hr.bytes
 have HQ := zx (vj hr.pl)
 have HB : ∀ o, Below w.heap.size w (w.alloc o) := fun o => Below.new1 o
 clear h hr hk
 go_enter Tryz.func115, Tryz.ntmps115
 go_wp2_with fail
 refine (zy CT _ (HB _)).mono ?_
 rintro e w1 ⟨v, rfl, ⟨a1, c1, rfl, hrs, hys⟩, hr2, bu⟩
 clear CT
 have HRS := zx (And.intro hrs hys)
 have G1 := bu.at (heap_alloc_new w _) (show w.heap.size ≠ b by omega)
 have hs1 : w.heap.size < w1.heap.size := (Array.getElem?_eq_some_iff.1 G1).1
 obtain ⟨⟨y0, y1, y2, y3, y4⟩, z0, z1, z2, z3, z4⟩ := yV G1
 clear hrs hys
 go_wp2_with fail
 (try simp only [Exit.inBlock, Exit.then])
 have BX := (Bu.of (b := b) (HB (.cells #[.int .i64 0, .string ⟨#[]⟩, .slice none 0 0, .slice none 0 0, .int .i64 0] 40))).then bu
 have KX : KR w1 ((((((w1.setCell ⟨w.heap.size, 0, none⟩ (.int .i64 3)).setCell ⟨w.heap.size, 1, none⟩ (.string ⟨#[]⟩)).setCell ⟨w.heap.size, 2, none⟩ (.slice a1 (rg r).length c1)).setCell ⟨w.heap.size, 3, none⟩ (.slice none 0 0)).setCell ⟨w.heap.size, 4, none⟩ (.int .i64 (pl r : Nat))).alloc (.cells #[.int .i64 (kd r), .string (strOfNums (tx r)), .slice a1 (rg r).length c1, .int .i64 (pl r : Nat)] 124)) := fun g' cs fr hk => by
  have n2 := yz hk G1 (by decide)
  exact zK (zj (zj (zj (zj (zj hk n2 _) n2 _) n2 _) n2 _) n2 _) _
 refine bodyPost_ret (v := .agg #[.int .i64 3, .string ⟨#[]⟩, .slice a1 (rg r).length c1, .slice none 0 0, .int .i64 (pl r : Nat)]) ?_ rfl ⟨_, rfl, ?_, ?_, ?_⟩
 ·exact jj rfl rfl (zK (Zq G1 _ _ _ _ _) _)
 ·exact PartE.leaf _ _ 3 [] (rg r) (pl r : Nat) a1 c1 (by unfold zW; omega) (fun z hz => by cases hz) (zy HQ) (vJ KX (zy HRS).1 (zy HRS).2).1 (vJ KX (zy HRS).1 (zy HRS).2).2
 ·have nb : b ≠ w.heap.size := by omega
  have nG : G ≠ w.heap.size := by omega
  refine hr2.kept ?_ ?_ KX
  ·rw [(Below.new1 _).block b (by simp; have := hr2.lt; omega)]; exact xQ nb _ _ _ _ _
  ·rw [(Below.new1 _).block G (by simp; have := hr2.ltG; omega)]; exact xQ nG _ _ _ _ _
 ·exact (((((BX.setTop (Nat.le_refl _) _ _).setTop (Nat.le_refl _) _ _).setTop (Nat.le_refl _) _ _).setTop (Nat.le_refl _) _ _).setTop (Nat.le_refl _) _ _).alloc _
def okK (x : List Int) : Int × Bool := if x = [42] then (6, true) else if x = [43] then (7, true) else if x = [63] then (8, true) else (0, false)
theorem str_const {x : List Int} (hx : U.zq x) (c : Nat) (hc : c ≤ 255) : (strOfNums x).toList = [UInt8.ofNat c] ↔ x = [(c : Int)] := by
 have := st_list (St.of hx) [(c : Int)] (yW (by omega) (by omega) (fun z hz => by cases hz))
 simpa using this
theorem oftenKind_l (k : Int) (x : List Int) (hx : U.zq x) (w : World) :
  Calls Tryz.prog 222 #[.agg #[.int .i64 k, .string (strOfNums x)]] w fun e w' => e = .returned (.tuple #[.int .i64 (okK x).1, .bool (okK x).2]) ∧ Below w.heap.size w w' := by
 have s1 := str_const hx 42 (by omega)
 have s2 := str_const hx 43 (by omega)
 have s3 := str_const hx 63 (by omega)
 unfold okK
 by_cases h1 : x = [42]
 ·have p1 := s1.2 h1
  rw [if_pos h1]
  clear s1 s2 s3 h1 hx
  generalize strOfNums x = S at *
  go_enter Tryz.func222, Tryz.ntmps222
  go_wp2_with fail
  (try simp only [Exit.inBlock, Exit.then])
  refine bodyPost_ret (v := .tuple #[.int .i64 6, .bool true]) ?_ rfl ⟨rfl, Below.new1 _⟩
  simp [results, Tryz.results222]
 ·have p1 : ((strOfNums x).toList == [42]) = false := beq_eq_false_iff_ne.2 fun e => h1 (s1.1 e)
  rw [if_neg h1]
  by_cases h2 : x = [43]
  ·have p2 := s2.2 h2
   rw [if_pos h2]
   clear s1 s2 s3 h1 h2 hx
   generalize strOfNums x = S at *
   go_enter Tryz.func222, Tryz.ntmps222
   go_wp2_with fail
   (try simp only [Exit.inBlock, Exit.then])
   refine bodyPost_ret (v := .tuple #[.int .i64 7, .bool true]) ?_ rfl ⟨rfl, Below.new1 _⟩
   simp [results, Tryz.results222]
  ·have p2 : ((strOfNums x).toList == [43]) = false := beq_eq_false_iff_ne.2 fun e => h2 (s2.1 e)
   rw [if_neg h2]
   by_cases h3 : x = [63]
   ·have p3 := s3.2 h3
    rw [if_pos h3]
    clear s1 s2 s3 h1 h2 h3 hx
    generalize strOfNums x = S at *
    go_enter Tryz.func222, Tryz.ntmps222
    go_wp2_with fail
    (try simp only [Exit.inBlock, Exit.then])
    refine bodyPost_ret (v := .tuple #[.int .i64 8, .bool true]) ?_ rfl ⟨rfl, Below.new1 _⟩
    simp [results, Tryz.results222]
   ·have p3 : ((strOfNums x).toList == [63]) = false := beq_eq_false_iff_ne.2 fun e => h3 (s3.1 e)
    rw [if_neg h3]
    clear s1 s2 s3 h1 h2 h3 hx
    generalize strOfNums x = S at *
    go_enter Tryz.func222, Tryz.ntmps222
    go_wp2_with fail
    (try simp only [Exit.inBlock, Exit.then])
    refine bodyPost_ret (v := .tuple #[.int .i64 0, .bool false]) ?_ rfl ⟨rfl, Below.new1 _⟩
    simp [results, Tryz.results222]
theorem lk_isS (r : List TN) (c : Int) : (R.lk r).2 = [c] ↔ isS r c = true := by
 unfold R.lk isS
 by_cases h : kd r = 4
 ·simp [h]
 ·simp [h]
theorem oft_ok (p : PT) (r : List TN) : oft p r = if (okK (R.lk r).2).2 then (mk (okK (R.lk r).2).1 [] [] [p] (atP p), r.tail) else (p, r) := by
 unfold oft oftK okK
 simp only [lk_isS]
 by_cases h1 : isS r 42 = true
 ·simp [h1]
 ·by_cases h2 : isS r 43 = true
  ·simp [h1, h2]
  ·by_cases h3 : isS r 63 = true
   ·simp [h1, h2, h3]
   ·simp [h1, h2, h3]
theorem ok_sign {r : List TN} (h : (okK (R.lk r).2).2 = true) : kd r = 4 := by
 unfold okK at h
 simp only [lk_isS] at h
 by_cases h1 : isS r 42 = true
 ·exact isS_kd h1
 ·by_cases h2 : isS r 43 = true
  ·exact isS_kd h2
  ·by_cases h3 : isS r 63 = true
   ·exact isS_kd h3
   ·simp [h1, h2, h3] at h
theorem ok_fits (x : List Int) : zW (okK x).1 := by
 unfold okK zW
 split
 ·simp
 ·split
  ·simp
  ·split <;> simp
theorem PartE.fitsQ {D : Nat → Prop} {w : World} {v : Value} {p : PT} (h : PartE D w v p) : zW (atP p) := by
 obtain ⟨n, h⟩ := h
 cases n with
 | zero => exact h.elim
 | succ n =>
  obtain ⟨kk, t, R, L, q, aR, cR, aL, cL, cs, rfl, -, -, -, f3, -⟩ := h
  exact f3
theorem PartsE.one {D : Nat → Prop} {w : World} {p : PT} {x0 x1 x2 x3 x4 : Value} (h : PartE D w (.agg #[x0, x1, x2, x3, x4]) p) {g : Nat} {t : TypeId} {fr : Nat × Nat} (hg : w.heap[g]? = some (.cells #[x0, x1, x2, x3, x4] t fr)) (dg : D g) : PartsE D w (some ⟨g, 0, none⟩) 1 1 [p] := by
 obtain ⟨n, h⟩ := h
 refine ⟨n, [x0, x1, x2, x3, x4], rfl, ⟨Nat.le_refl _, by unfold maxLen; omega, fun j u hu => ⟨g, 0, rfl, dg, ?_⟩⟩, x0, x1, x2, x3, x4, [], rfl, h, rfl⟩
 rw [Nat.zero_add]
 simp only [World.cell?, hg]
 simpa using hu
theorem often_l (w : World) (b G : Nat) (r : List TN) (m : Nat) (d : Int) (h : Rd w b G r m d) (hr : Ends r) (D : Nat → Prop) (hD : ∀ g, D g → g < w.heap.size ∧ g ≠ b) (v : Value) (p : PT) (hp : PartE D w v p) :
  Calls Tryz.prog 202 #[.pointer (some ⟨b, 0, none⟩), v] w fun e w' => ∃ v', e = .returned v' ∧ PartE (fun g => D g ∨ New w w' g) w' v' (oft p r).1 ∧ Rd w' b G (oft p r).2 m d ∧ Bu b w w' := by
 have hbl := h.lt
 have hGl := h.ltG
 have CN := zx (fun W (bW : Below w.heap.size w W) => next_l W b G r m d (h.later bW) hr.ne)
 have CL := zx (fun a n c W => lookOf_l (kd r) (strOfNums (tx r)) a n c (pl r : Nat) W)
 rw [lk_str] at CL
 have CK := zx (fun W => oftenKind_l (kd r) (R.lk r).2 hr.lk W)
 have HRD := zx h
 have HFQ := zx hp.fitsQ
 obtain ⟨k, S, a, n, c, a', n', c', q, rfl, eq⟩ := hp.form
 have HEQ := zx eq
 clear eq
 have BA : ∀ o1 o2, Below w.heap.size w ((w.alloc o1).alloc o2) := fun o1 o2 => (Below.new1 o1).alloc (by simp) o2
 rw [oft_ok]
 have HP := zx hp
 have HD := zx hD
 cases hk : (okK (R.lk r).2).2 with
 | false =>
  rw [hk] at CK
  rw [if_neg (by simp)]
  clear hp hD hr h
  go_enter Tryz.func202, Tryz.ntmps202
  go_wp2_with fail
  refine (zy CN _ (BA _ _)).mono ?_
  rintro e w1 ⟨v, rfl, ⟨a1, c1, rfl, -, -⟩, b1⟩
  clear CN
  go_wp2_with fail
  refine (zy CL _ _ _ _).mono ?_
  rintro e w2 ⟨rfl, b2⟩
  clear CL
  go_wp2_with fail
  refine (zy CK _).mono ?_
  rintro e w3 ⟨rfl, b3⟩
  clear CK
  have b13 := zw (zw b1 b2) b3
  have BB := zw (BA _ _) b13
  obtain ⟨g1, g2⟩ := two_new b13
  obtain ⟨⟨y0, y1, y2, y3, y4⟩, z0, z1, z2, z3, z4⟩ := yV g2
  obtain ⟨⟨x0, x1, x2, x3, x4⟩, -⟩ := yV g1
  go_wp2_with fail
  (try simp only [Exit.inBlock, Exit.then])
  refine bodyPost_ret (v := .agg #[.int .i64 k, .string S, .slice a n c, .slice a' n' c', .int .i64 q]) ?_ rfl ⟨_, rfl, ?_, ?_, ?_⟩
  ·exact jj rfl rfl (Zq g2 _ _ _ _ _)
  ·have B5 := set5 BB (g := w.heap.size + 1) (by omega) (.int .i64 k) (.string S) (.slice a n c) (.slice a' n' c') (.int .i64 q)
   exact (zy HP).kept (fun g hg => ⟨.inl hg, B5.block g (zy HD g hg).1⟩) (KR.of B5)
  ·exact (zy HRD).later (set5 BB (by omega) _ _ _ _ _)
  ·exact Bu.of (set5 BB (by omega) _ _ _ _ _)
 | true =>
  have hk4 := ok_sign hk
  have CT := zx (fun W (bW : Below w.heap.size w W) => vu W b G r m d (h.later bW) hr.ne (hr.tail (by rw [hk4]; decide)).ne)
  rw [hk] at CK
  rw [if_pos rfl]
  have HFK := zx (ok_fits (R.lk r).2)
  generalize (okK (R.lk r).2).1 = kk at *
  clear hp hD hr h hk4 hk
  go_enter Tryz.func202, Tryz.ntmps202
  go_wp2_with fail
  refine (zy CN _ (BA _ _)).mono ?_
  rintro e w1 ⟨v, rfl, ⟨a1, c1, rfl, -, -⟩, b1⟩
  clear CN
  go_wp2_with fail
  refine (zy CL _ _ _ _).mono ?_
  rintro e w2 ⟨rfl, b2⟩
  clear CL
  go_wp2_with fail
  refine (zy CK _).mono ?_
  rintro e w3 ⟨rfl, b3⟩
  clear CK
  have b13 := zw (zw b1 b2) b3
  have BB := zw (BA _ _) b13
  go_wp2_with fail
  refine (zy CT _ BB).mono ?_
  rintro e w4 ⟨v, rfl, ⟨a2, c2, rfl, -, -⟩, hr2, bu⟩
  clear CT
  obtain ⟨g1, g2⟩ := two_new b13
  have G1 := bu.at g1 (show w.heap.size ≠ b by omega)
  have G2 := bu.at g2 (show w.heap.size + 1 ≠ b by omega)
  have hs4 : w.heap.size + 1 < w4.heap.size := (Array.getElem?_eq_some_iff.1 G2).1
  obtain ⟨⟨y0, y1, y2, y3, y4⟩, z0, z1, z2, z3, z4⟩ := yV G2
  obtain ⟨⟨x0, x1, x2, x3, x4⟩, -⟩ := yV G1
  clear g1 g2
  have x4' : ∀ o, (w4.alloc o).cell? ⟨w.heap.size, 4, none⟩ = some (.int .i64 q) := fun o => ((Below.new1 o).cell (zY x4)).trans x4
  go_wp2_with fail
  (try simp only [Exit.inBlock, Exit.then])
  have X5 := fun (k : Nat) (hk : k ≠ w.heap.size + 1) => xQ (W := w4) hk (.int .i64 kk) (.string ⟨#[]⟩) (.slice none 0 0) (.slice (some ⟨w4.heap.size, 0, none⟩) 1 1) (.int .i64 q)
  have KX : KR w4 ((((((w4.setCell ⟨w.heap.size + 1, 0, none⟩ (.int .i64 kk)).setCell ⟨w.heap.size + 1, 1, none⟩ (.string ⟨#[]⟩)).setCell ⟨w.heap.size + 1, 2, none⟩ (.slice none 0 0)).setCell ⟨w.heap.size + 1, 3, none⟩ (.slice (some ⟨w4.heap.size, 0, none⟩) 1 1)).setCell ⟨w.heap.size + 1, 4, none⟩ (.int .i64 q)).alloc (.cells #[.int .i64 k, .string S, .slice a n c, .slice a' n' c', .int .i64 q] 40)) := fun g' cs fr hk => by
   refine zK ?_ _
   rw [X5 g' (yz hk G2 (by decide))]; exact hk
  obtain ⟨v0, hrc, -⟩ := zy HRD
  have KA : KR w w4 := (KR.of BB).then (KR.bu bu ((BB.block b hbl).trans hrc) (by decide))
  have sB := BB.size
  refine bodyPost_ret (v := .agg #[.int .i64 kk, .string ⟨#[]⟩, .slice none 0 0, .slice (some ⟨w4.heap.size, 0, none⟩) 1 1, .int .i64 q]) ?_ rfl ⟨_, rfl, ?_, ?_, ?_⟩
  ·exact jj rfl rfl (zK (Zq G2 _ _ _ _ _) _)
  ·rw [← zy HEQ]
   refine PartE.node kk q (zy HFK) (by rw [zy HEQ]; exact zy HFQ) (PartsE.one (x0 := .int .i64 k) (x1 := .string S) (x2 := .slice a n c) (x3 := .slice a' n' c') (x4 := .int .i64 q) ?_ (by have := heap_alloc_new (((((w4.setCell ⟨w.heap.size + 1, 0, none⟩ (.int .i64 kk)).setCell ⟨w.heap.size + 1, 1, none⟩ (.string ⟨#[]⟩)).setCell ⟨w.heap.size + 1, 2, none⟩ (.slice none 0 0)).setCell ⟨w.heap.size + 1, 3, none⟩ (.slice (some ⟨w4.heap.size, 0, none⟩) 1 1)).setCell ⟨w.heap.size + 1, 4, none⟩ (.int .i64 q)) (.cells #[.int .i64 k, .string S, .slice a n c, .slice a' n' c', .int .i64 q] 40); simpa using this) (.inr ⟨by omega, by simp⟩))
   refine (zy HP).kept (fun g hg => ⟨.inl hg, ?_⟩) (KA.then KX)
   obtain ⟨d1, d2⟩ := zy HD g hg
   rw [(Below.new1 _).block g (by simp; omega), X5 g (by omega), bu.block g (by omega) (fun e => d2 (by injection e)), BB.block g d1]
  ·refine hr2.kept ?_ ?_ KX
   ·rw [(Below.new1 _).block b (by simp; omega)]; exact X5 b (by omega)
   ·rw [(Below.new1 _).block G (by simp; omega)]; exact X5 G (by omega)
  ·exact ((((((Bu.of BB).then bu).setTop (by omega) _ _).setTop (by omega) _ _).setTop (by omega) _ _).setTop (by omega) _ _ |>.setTop (by omega) _ _).alloc _
theorem equalLk (k k2 : Int) (S S2 : ByteArray) (w : World) : (Op.equal 135 (.agg #[.int .i64 k, .string S]) (.agg #[.int .i64 k2, .string S2])).run Tryz.prog w = .ok (k == k2 && S.toList == S2.toList) w := by
 have u3 := Tryz.underlying3
 have a3 := Tryz.isAgg3
 have z3 := Tryz.sizeOf3
 have u9 := Tryz.underlying9
 have a9 := Tryz.isAgg9
 have z9 := Tryz.sizeOf9
 have hS : Tryz.prog.underlying 135 = some (.struct (Tryz.prog.fieldsOf 135)) := by kernel_rfl
 have hp : Tryz.prog.stoodInHeld 135 = false := by kernel_rfl
 unfold Op.equal Op.maxDepth
 rw [show (10000 : Nat) = 9999 + 1 from rfl, run_equalIn_agg w 9999 135 _ _ hS hp]
 simp only [Program.fieldsOf, Tryz.underlying135]
 go_simp
 by_cases h1 : k = k2
 ·by_cases h2 : S.toList = S2.toList <;> simp [h1, h2]
 ·simp [h1]
def fnd (k : Int) (x : List Int) : List (Int × List Int × Nat) → Nat → Option (Nat × Nat)
 | [], _ => none
 | (k2, x2, f) :: es, i => if (k, x) = (k2, x2) then some (i, f) else fnd k x es (i + 1)
def EsC : List MapEntry → List (Int × List Int × Nat) → Prop
 | [], l => l = []
 | e :: es, l => ∃ k x f l', l = (k, x, f) :: l' ∧ U.zq x ∧ e.key = lookV k x ∧ e.val = .func (.func f) #[] #[] ∧ EsC es l'
theorem asking (k : Int) (x : List Int) (hx : U.zq x) (w : World) : ∀ (es : List MapEntry) (l : List (Int × List Int × Nat)) (i : Nat), EsC es l →
  (Instr.findAsking 135 (lookV k x) es i).run Tryz.prog w = .ok ((fnd k x l i).map fun p => (p.1, .func (.func p.2) #[] #[])) w := by
 intro es
 induction es with
 | nil =>
  intro l i h
  have : l = [] := h
  subst this
  rfl
 | cons e es ih =>
  intro l i h
  obtain ⟨k2, x2, f, l', rfl, hx2, hk, hv, hr⟩ := h
  unfold Instr.findAsking
  rw [hk]
  unfold lookV
  simp only [Sem.run_bind, equalLk, look_eq hx hx2, Result.andThen, fnd]
  by_cases c : (k, x) = (k2, x2)
  ·simp [c, hv]
  ·rw [decide_eq_false c, if_neg c]
   simp only [Bool.false_eq_true, if_false]
   exact ih l' (i + 1) hr
theorem found (k : Int) (x : List Int) (hx : U.zq x) (w : World) (es : List MapEntry) (l : List (Int × List Int × Nat)) (h : EsC es l) :
  (Instr.findKey 135 (lookV k x) es).run Tryz.prog w = .ok ((fnd k x l 0).map fun p => (p.1, .func (.func p.2) #[] #[])) w := by
 unfold Instr.findKey
 simp only [Sem.run_bind, run_underlying Tryz.underlying135, Result.andThen]
 cases es with
 | nil =>
  have : l = [] := h
  subst this
  rfl
 | cons e es =>
  have hk : Instr.findNow (.struct (Tryz.prog.fieldsOf 135)) (lookV k x) (e :: es) 0 = none := by
   obtain ⟨k2, x2, f, l', rfl, hx2, hk, hv, hr⟩ := h
   simp [Instr.findNow, Instr.sameNow, hk, lookV]
  have e0 : (TypeDesc.struct (Tryz.prog.fieldsOf 135)) = (TypeDesc.struct (Tryz.prog.fieldsOf 135)) := rfl
  have := asking k x hx w (e :: es) l 0 h
  simp [Instr.findNow, Instr.sameNow, lookV] at this ⊢
  exact this
theorem ck_look (e : Bool) (k : Int) (S : ByteArray) (W : World) : (Instr.checkKey e 10000 135 (.agg #[.int .i64 k, .string S])).run Tryz.prog W = .ok () W := by kernel_rfl
def Yq (k : Int) (x : List Int) : Option Nat :=
 if (k, x) = (0, []) then some 112 else if (k, x) = (1, []) then some 113 else if (k, x) = (2, []) then some 114
 else if (k, x) = (3, []) then some 115 else if (k, x) = (4, [40]) then some 117 else none
def Mq (w : World) (m : Nat) : Prop := ∃ es clock l, w.heap[m]? = some (.map es clock) ∧ EsC es.toList l ∧ ∀ k x, (fnd k x l 0).map Prod.snd = Yq k x
theorem Mq.later {w w' : World} {m : Nat} (h : Mq w m) (b : Below w.heap.size w w') : Mq w' m := by
 obtain ⟨es, clock, l, h1, h2, h3⟩ := h
 exact ⟨es, clock, l, (b.block m (Array.getElem?_eq_some_iff.1 h1).1).trans h1, h2, h3⟩
theorem Mq.bu {w w' : World} {b m : Nat} (h : Mq w m) (bu : Bu b w w') {cs : Array Value} {t : TypeId} {fr : Nat × Nat} (hb : w.heap[b]? = some (.cells cs t fr)) : Mq w' m := by
 obtain ⟨es, clock, l, h1, h2, h3⟩ := h
 refine ⟨es, clock, l, bu.at h1 ?_, h2, h3⟩
 intro e
 subst e
 rw [h1] at hb
 injection hb with hb
 cases hb
theorem Mq.get {w : World} {m : Nat} (h : Mq w m) (k : Int) (x : List Int) (hx : U.zq x) : ∃ es clock, w.heap[m]? = some (.map es clock) ∧ ∀ W : World, W.heap[m]? = some (.map es clock) →
  (Instr.lookup 128 (.map (some m)) (.agg #[.int .i64 k, .string (strOfNums x)]) true).run Tryz.prog W = .ok (.tuple #[match Yq k x with | none => .nilFunc | some f => .func (.func f) #[] #[], .bool (Yq k x).isSome]) W := by
 obtain ⟨es, clock, l, h1, h2, h3⟩ := h
 refine ⟨es, clock, h1, fun W hW => ?_⟩
 have hz : (zeroValue 157).run Tryz.prog W = .ok .nilFunc W := by kernel_rfl
 have hg : (getObj m).run Tryz.prog W = .ok (.map es clock) W := by simp [getObj, hW, Sem.run]
 have hf := found k x hx W es.toList l h2
 unfold lookV at hf
 rw [← h3 k x]
 cases e : fnd k x l 0 with
 | none =>
  rw [e] at hf
  simp [Instr.lookup, run_underlying Tryz.underlying128, hg, ck_look, hf, hz]
 | some p =>
  rw [e] at hf
  simp [Instr.lookup, run_underlying Tryz.underlying128, hg, ck_look, hf]
theorem atom_fn {grp : List TN → Res PT} {r : List TN} : (Yq (R.lk r).1 (R.lk r).2 = some 112 ∧ kd r = 0) ∨ (Yq (R.lk r).1 (R.lk r).2 = some 113 ∧ kd r = 1) ∨ (Yq (R.lk r).1 (R.lk r).2 = some 114 ∧ kd r = 2) ∨ (Yq (R.lk r).1 (R.lk r).2 = some 115 ∧ kd r = 3) ∨ (Yq (R.lk r).1 (R.lk r).2 = some 117 ∧ isS r 40 = true) ∨ (Yq (R.lk r).1 (R.lk r).2 = none ∧ vo grp r = none) := by
 unfold Yq R.lk
 by_cases h0 : kd r = 0
 ·simp [h0]
 by_cases h1 : kd r = 1
 ·simp [h1]
 by_cases h2 : kd r = 2
 ·simp [h2]
 by_cases h3 : kd r = 3
 ·simp [h3]
 by_cases h4 : isS r 40 = true
 ·have hk := isS_kd h4
  have ht := isS_tx h4
  simp [hk, ht, h4]
 ·refine .inr (.inr (.inr (.inr (.inr ⟨?_, ?_⟩))))
  ·have n4 : ¬ (kd r = 4 ∧ tx r = [40]) := fun c => h4 (by unfold isS; exact decide_eq_true c)
   by_cases e : kd r = 4
   ·have : tx r ≠ [40] := fun c => n4 ⟨e, c⟩
    simp [e, this]
   ·simp [h0, h1, h2, h3, e]
  ·unfold vo
   simp [h0, h1, h2, h3, h4]
/-! ### What the recursive ones answer -/
def RES (b G m : Nat) (d : Int) (n : Nat) (w : World) (x : Res PT) (e : Ending) (w' : World) : Prop :=
 (∃ v p r', x = .inr (p, r') ∧ e = .returned v ∧ PartE (New w w') w' v p ∧ Ends r' ∧ r'.length ≤ n ∧ Rd w' b G r' m d ∧ Bu b w w') ∨ (∃ q why, x = .inl (q, why) ∧ e = xj q why ∧ Bu b w w')
def dp (d : Nat) : Int := 12 - (d : Int)
def GrpC (d : Nat) : Prop := ∀ (w : World) (b G : Nat) (r : List TN) (m : Nat), Rd w b G r m (dp d) → Ends r → isS r 40 = true → r.length ≤ 1000 → Mq w m →
 Calls Tryz.prog 117 #[.pointer (some ⟨b, 0, none⟩)] w (RES b G m (dp d) r.tail.length w (jw d r))
def SeqC (d : Nat) : Prop := ∀ (w : World) (b G : Nat) (r : List TN) (m : Nat), Rd w b G r m (dp d) → Ends r → r.length ≤ 1000 → Mq w m →
 Calls Tryz.prog 166 #[.pointer (some ⟨b, 0, none⟩)] w (RES b G m (dp d) r.length w (seqL (jw d) r))
def AltC (d : Nat) : Prop := ∀ (w : World) (b G : Nat) (r : List TN) (m : Nat), Rd w b G r m (dp d) → Ends r → r.length ≤ 1000 → Mq w m →
 Calls Tryz.prog 123 #[.pointer (some ⟨b, 0, none⟩)] w (RES b G m (dp d) r.length w (altL (jw d) r))
def leftN (b : Nat) (w : World) : Nat :=
 match w.cell? ⟨b, 0, none⟩ with
 | some (.slice _ n _) => n
 | _ => 0
theorem Rd.left {w : World} {b G : Nat} {r : List TN} {m : Nat} {d : Int} (h : Rd w b G r m d) : leftN b w = r.length := by
 obtain ⟨v, h1, off, cap, cur, f, cs', rfl, -⟩ := h
 unfold leftN
 rw [(qZ h1).1.1]
theorem Rd.cells {w : World} {b G : Nat} {r : List TN} {m : Nat} {d : Int} (h : Rd w b G r m d) : ∃ cs, w.heap[b]? = some (.cells cs 131) ∧ w.cell? ⟨b, 1, none⟩ = some (.map (some m)) ∧ w.cell? ⟨b, 2, none⟩ = some (.int .i64 d) ∧ w.frozen? ⟨b, 2, none⟩ = false := by
 obtain ⟨v, h1, -⟩ := h
 obtain ⟨⟨-, q1, q2⟩, -, -, f2⟩ := qZ h1
 exact ⟨_, h1, q1, q2, f2⟩
def OwnD (w wr : World) (v : Value) : Nat → Prop := fun g => w.heap.size < g ∧ g < wr.heap.size ∧ some g ≠ v.ownBlock
theorem own_row5 {w : World} {base : Nat} {a : Option Addr} {n c : Nat} {cs : List Value} (h : w.ownsRow base 40 5 (.slice a n c) n cs) (D : Nat → Prop) (hD : ∀ g, base ≤ g → g < w.heap.size → D g) : Row5 D w a n c cs := by
 rcases h.2 with ⟨e, h0⟩ | ⟨g, cap, cur, e, hb, hg, hn, hm, hs, ht⟩
 ·injection e with e1 e2 e3
  subst e1; subst e3
  have : cs = [] := List.eq_nil_of_length_eq_zero (by rw [h.1, h0])
  subst this
  exact ⟨by omega, Nat.zero_le _, fun j u hu => by simp at hu⟩
 ·injection e with e1 e2 e3
  subst e1; subst e3
  refine ⟨hn, hm, fun j u hu => ⟨g, 0, rfl, hD g hb (Array.getElem?_eq_some_iff.1 hg).1, ?_⟩⟩
  rw [Nat.zero_add]
  simp only [World.cell?, hg]
  have hj : j < cs.length := (List.getElem?_eq_some_iff.1 hu).1
  rw [← ht] at hu
  rw [List.getElem?_take_of_lt (by rw [h.1] at hj; omega)] at hu
  simpa using hu
theorem own_part {w : World} {base : Nat} {v : Value} {n : Nat} {cs : List Value} (h : w.ownsRow base 40 5 v n cs) : ∀ k, v.ownBlock = some k → ∃ cs', w.heap[k]? = some (.cells cs' 40) := by
 intro k hk
 rcases h.2 with ⟨rfl, _⟩ | ⟨g, cap, cur, rfl, hb, hg, _⟩
 ·simp [Value.ownBlock] at hk
 ·simp [Value.ownBlock] at hk
  subst hk
  exact ⟨cur, hg⟩
theorem Zy {w w' : World} {b base : Nat} {v : Value} {n : Nat} {cs : List Value} (h : w.ownsRow base 40 5 v n cs) (bu : Bu b w w') (hb : b < base) : w'.ownsRow base 40 5 v n cs :=
 h.kept bu (by
  cases e : v.ownBlock with
  | none => exact .inl rfl
  | some k => exact .inr (fun c => by injection c with c; have := (h.lt k e).1; omega))
theorem Mq.kept {w X : World} {m : Nat} (h : Mq w m) (k : ∀ o, w.heap[m]? = some o → (∀ cs t fr, o ≠ .cells cs t fr) → X.heap[m]? = some o) : Mq X m := by
 obtain ⟨es, clock, l, h1, h2, h3⟩ := h
 exact ⟨es, clock, l, k _ h1 (fun cs t fr e => by cases e), h2, h3⟩
theorem Bu.grow {b : Nat} {w W X : World} {row : Option Nat} (h : Bu b w W) (g : W.grownBy X row) (hr : ∀ k, row = some k → w.heap.size ≤ k) : Bu b w X :=
 ⟨g.os.trans h.os, g.tape.trans h.tape, g.output.trans h.output, Nat.le_trans h.size g.size, fun k hk hn => (g.block k (Nat.lt_of_lt_of_le hk h.size) (fun e => by have := hr k e.symm; omega)).trans (h.block k hk hn)⟩
theorem ZJ : (Tryz.prog.info? 40).map (fun i => (i.zero, i.size, i.bytes)) = some (some (.agg #[.int .i64 0, .string ⟨#[]⟩, .slice none 0 0, .slice none 0 0, .int .i64 0]), 5, 80) := by kernel_rfl
theorem Xz (w : World) (n : Nat) (x0 x1 x2 x3 x4 : Value) (hn : n = w.heap.size) : ∀ (j : Nat) (u : Value), [x0, x1, x2, x3, x4][j]? = some u → (w.alloc (.cells #[x0, x1, x2, x3, x4] 40)).cell? ((⟨n, 0, none⟩ : Addr).add j) = some u := by
 subst hn
 exact World.news_of_block (cs := #[x0, x1, x2, x3, x4]) (t := 40) (fr := (0, 0)) (heap_alloc_new w _)
structure RowI (b G m : Nat) (d : Int) (w : World) (acc : List PT) (rr : List TN) (v : Value) (cs : List Value) (wr : World) : Prop where
 he : Ends rr
 rd : Rd wr b G rr m d
 mq : Mq wr m
 own : wr.ownsRow (w.heap.size + 1) 40 5 v acc.length cs
 pts : PtC (PartE (OwnD w wr v) wr) acc cs
 bu : Bu b w wr
 out : wr.heap[w.heap.size]? = some (.cells #[.int .i64 0, .string ⟨#[]⟩, .slice none 0 0, .slice none 0 0, .int .i64 0] 40)
theorem RowI.snoc {b G m : Nat} {d : Int} {w wr w2 w4 w5 : World} {acc : List PT} {rr r4 : List TN} {v : Value} {cs : List Value} (h : RowI b G m d w acc rr v cs wr) (hb : b < w.heap.size) (hG : G < w.heap.size)
  (b2 : Below wr.heap.size wr w2) (bu4 : Bu b w2 w4) (he : Ends r4) (rd4 : Rd w4 b G r4 m d) {p : PT} {x0 x1 x2 x3 x4 : Value} (hp : PartE (New w2 w4) w4 (.agg #[x0, x1, x2, x3, x4]) p) {o : Obj} {gg cap : Nat}
  (ho : w5.ownsRow (w.heap.size + 1) 40 5 (.slice (some ⟨gg, 0, none⟩) (acc.length + 1) cap) (acc.length + 1) (cs ++ [x0, x1, x2, x3, x4])) (hg : (w4.alloc o).grownBy w5 v.ownBlock) (hat : v.ownBlock = some gg ∨ gg = (w4.alloc o).heap.size) :
  RowI b G m d w (acc ++ [p]) r4 (.slice (some ⟨gg, 0, none⟩) (acc.length + 1) cap) (cs ++ [x0, x1, x2, x3, x4]) w5 := by
 obtain ⟨-, rd, mq, own, pts, bu, out⟩ := h
 have s0 := bu.size
 have so := (Array.getElem?_eq_some_iff.1 out).1
 have s2 := b2.size
 have s4 := bu4.size
 have lo : ∀ k, v.ownBlock = some k → w.heap.size + 1 ≤ k ∧ k < wr.heap.size := own.lt
 have sA : (w4.alloc o).heap.size = w4.heap.size + 1 := by simp
 have s5 := hg.size
 -- blocks that stay, from where they are
 have st2 : ∀ g, g < wr.heap.size → g ≠ b → some g ≠ v.ownBlock → w5.heap[g]? = wr.heap[g]? := fun g h1 h2 h3 => by
  rw [hg.block g (by omega) h3, (Below.new1 o).block g (by omega), bu4.block g (by omega) (fun e => h2 (by injection e)), b2.block g h1]
 have st4 : ∀ g, w2.heap.size ≤ g → g < w4.heap.size → w5.heap[g]? = w4.heap[g]? := fun g h1 h2 => by
  rw [hg.block g (by omega) (fun e => by have := (lo g e.symm).2; omega), (Below.new1 o).block g h2]
 have stb : ∀ g, g ≠ b → g < wr.heap.size → some g ≠ v.ownBlock → w5.heap[g]? = w4.heap[g]? := fun g h2 h1 h3 => by
  rw [hg.block g (by omega) h3, (Below.new1 o).block g (by omega)]
 have krA : KR w4 w5 := by
  refine (KR.of (Below.new1 o)).then (KR.grown hg fun k hk => ?_)
  obtain ⟨cs', hc⟩ := own_part own k hk
  have hkb : k ≠ b := by have := (lo k hk).1; omega
  exact ⟨cs', 40, _, zK (bu4.at ((b2.block k (lo k hk).2).trans hc) hkb) o, by decide⟩
 obtain ⟨rc, hrc, -⟩ := rd.cells
 have krB : KR wr w4 := (KR.of b2).then (KR.bu bu4 ((b2.block b (by omega)).trans hrc) (by decide))
 have nbo : some b ≠ v.ownBlock := fun e => by have := (lo b e.symm).1; omega
 have nGo : some G ≠ v.ownBlock := fun e => by have := (lo G e.symm).1; omega
 refine ⟨he, ?_, ?_, by rw [List.length_append]; exact ho, ?_, ?_, ?_⟩
 ·refine rd4.kept ?_ ?_ krA
  ·rw [hg.block b (by omega) nbo, (Below.new1 o).block b (by omega)]
  ·rw [hg.block G (by omega) nGo, (Below.new1 o).block G (by omega)]
 ·refine mq.kept fun ob h1 h2 => ?_
  have hm := (Array.getElem?_eq_some_iff.1 h1).1
  rw [st2 m hm (fun e => by subst e; rw [hrc] at h1; injection h1 with h1; exact h2 _ _ _ h1.symm) (fun e => by
   obtain ⟨cs', hc⟩ := own_part own m e.symm
   rw [hc] at h1; injection h1 with h1; exact h2 _ _ _ h1.symm)]
  exact h1
 ·refine PtC.snoc (P := PartE (OwnD w w5 (.slice (some ⟨gg, 0, none⟩) (acc.length + 1) cap)) w5) ?_ acc cs (PtC.mono (fun u q hq => ?_) _ _ pts)
  ·refine hp.kept (fun g hg' => ⟨⟨by have := hg'.1; omega, by have := hg'.2; omega, ?_⟩, st4 g hg'.1 hg'.2⟩) krA
   intro e
   simp only [Value.ownBlock, Option.some.injEq] at e
   rcases hat with h1 | h1
   ·have := (lo gg h1).2; have := hg'.1; omega
   ·have := hg'.2; omega
  ·refine hq.kept (fun g hg' => ⟨⟨hg'.1, by have := hg'.2.1; omega, ?_⟩, st2 g hg'.2.1 (by have := hg'.1; omega) hg'.2.2⟩) (krB.then krA)
   intro e
   simp only [Value.ownBlock, Option.some.injEq] at e
   rcases hat with h1 | h1
   ·exact hg'.2.2 (by rw [h1, e])
   ·have := hg'.2.1; omega
 ·exact (((bu.then (Bu.of b2)).then bu4).alloc o).grow hg (fun k hk => by have := (lo k hk).1; omega)
 ·rw [st2 w.heap.size (by have := (Array.getElem?_eq_some_iff.1 out).1; exact this) (by omega) (fun e => by have := (lo _ e.symm).1; omega)]
  exact out
theorem RowI.parts {b G m : Nat} {d : Int} {w wr w2 : World} {acc : List PT} {rr : List TN} {a : Option Addr} {n c : Nat} {cs : List Value} (h : RowI b G m d w acc rr (.slice a n c) cs wr) (hn : n = acc.length) (b2 : Below wr.heap.size wr w2) :
  PartsE (fun g => w.heap.size < g ∧ g < w2.heap.size) w2 a n c acc := by
 subst hn
 have s2 := b2.size
 obtain ⟨k, hk⟩ := PtC.all acc cs (PtC.mono (fun u q hq => hq.kept (D' := fun g => w.heap.size < g ∧ g < w2.heap.size) (fun g hg => ⟨⟨hg.1, by have := hg.2.1; omega⟩, b2.block g hg.2.1⟩) (KR.of b2)) _ _ h.pts)
 exact ⟨k, cs, rfl, own_row5 (ju b2 h.own) _ (fun g h1 h2 => ⟨by omega, h2⟩), hk⟩
end Go.Proofs.YtnfgobgflcmepaaGreatDoor.R
namespace Go.Proofs.YtnfgobgflcmepaaGreatDoor.F
open Go.RowKit Go.Proofs.YtnfgobgflcmepaaGreatDoor.T Go.Proofs.YtnfgobgflcmepaaGreatDoor.R
/-! ### Rows of a type -/
def RowT (t : TypeId) (D : Nat → Prop) (w : World) (a : Option Addr) (len cap : Nat) (cs : List Value) : Prop :=
 len ≤ cap ∧ cap ≤ maxLen ∧ (cs = [] ∨ ∃ g off cur fr, a = some ⟨g, off, none⟩ ∧ D g ∧ w.heap[g]? = some (.cells cur t fr) ∧ ∀ (j : Nat) (u : Value), cs[j]? = some u → cur[off + j]? = some u)
theorem RowT.kept {t : TypeId} {D D' : Nat → Prop} {w X : World} {a : Option Addr} {len cap : Nat} {cs : List Value} (h : RowT t D w a len cap cs) (k : ∀ g cur fr, D g → w.heap[g]? = some (.cells cur t fr) → D' g ∧ X.heap[g]? = some (.cells cur t fr)) : RowT t D' X a len cap cs := by
 obtain ⟨h1, h2, h3⟩ := h
 refine ⟨h1, h2, ?_⟩
 rcases h3 with h | ⟨g, off, cur, fr, ha, hd, hg, hc⟩
 ·exact .inl h
 ·exact .inr ⟨g, off, cur, fr, ha, (k g cur fr hd hg).1, (k g cur fr hd hg).2, hc⟩
theorem RowT.cell {t : TypeId} {D : Nat → Prop} {w : World} {a : Option Addr} {len cap : Nat} {cs : List Value} (h : RowT t D w a len cap cs) {j : Nat} {u : Value} (hj : cs[j]? = some u) : ∃ g off, a = some ⟨g, off, none⟩ ∧ D g ∧ w.cell? ⟨g, off + j, none⟩ = some u := by
 obtain ⟨h1, h2, h3⟩ := h
 rcases h3 with h | ⟨g, off, cur, fr, ha, hd, hg, hc⟩
 ·rw [h] at hj; simp at hj
 ·exact ⟨g, off, ha, hd, by simp [World.cell?, hg, hc j u hj]⟩
theorem RowT.ofOwn {t : TypeId} {D : Nat → Prop} {w : World} {B sz : Nat} {a : Option Addr} {n c : Nat} {cs : List Value} (h : w.ownsRow B t sz (.slice a n c) n cs) (hD : ∀ g, (Value.slice a n c).ownBlock = some g → D g) : RowT t D w a n c cs := by
 rcases h.2 with ⟨e, h0⟩ | ⟨g, cap, cur, e, hb, hg, hn, hm, hs, ht⟩
 ·injection e with e1 e2 e3
  subst e1; subst e3
  have : cs = [] := List.eq_nil_of_length_eq_zero (by rw [h.1, h0]; simp)
  exact ⟨by omega, Nat.zero_le _, .inl this⟩
 ·injection e with e1 e2 e3
  subst e1; subst e3
  refine ⟨hn, hm, .inr ⟨g, 0, cur, (0, 0), rfl, hD g rfl, hg, fun j u hu => ?_⟩⟩
  rw [Nat.zero_add]
  have hj : j < cs.length := (List.getElem?_eq_some_iff.1 hu).1
  rw [← ht] at hu
  rw [List.getElem?_take_of_lt (by rw [h.1] at hj; omega)] at hu
  simpa using hu
theorem je {w : World} {base : Nat} {v : Value} {n : Nat} {cs : List Value} {T : TypeId} {sz : Nat} (h : w.ownsRow base T sz v n cs) : ∀ k, v.ownBlock = some k → ∃ cs', w.heap[k]? = some (.cells cs' T) := by
 intro k hk
 rcases h.2 with ⟨rfl, _⟩ | ⟨g, cap, cur, rfl, hb, hg, _⟩
 ·simp [Value.ownBlock] at hk
 ·simp [Value.ownBlock] at hk
  subst hk
  exact ⟨cur, hg⟩
/-! ### Symbols -/
def SyC (w : World) : List SY → List Value → Prop
 | [], cs => cs = []
 | s :: l, cs => ∃ a c cs', cs = .int .i64 s.1 :: .slice a s.2.1.length c :: .int .i64 s.2.2 :: cs' ∧ Rs w a s.2.1.length c s.2.1 ∧ Ty w a ∧ SyC w l cs'
theorem SyC.kr {w X : World} (k : KR w X) : ∀ (l : List SY) (cs : List Value), SyC w l cs → SyC X l cs := by
 intro l
 induction l with
 | nil => intro cs h; exact h
 | cons s l ih =>
  intro cs h
  obtain ⟨a, c, cs', e, hr, hy, ht⟩ := h
  obtain ⟨hr', hy'⟩ := vJ k hr hy
  exact ⟨a, c, cs', e, hr', hy', ih _ ht⟩
theorem SyC.len {w : World} : ∀ (l : List SY) (cs : List Value), SyC w l cs → cs.length = 3 * l.length := by
 intro l
 induction l with
 | nil => intro cs h; have : cs = [] := h; subst this; rfl
 | cons s l ih =>
  intro cs h
  obtain ⟨a, c, cs', rfl, -, -, ht⟩ := h
  have := ih _ ht
  simp only [List.length_cons, this]; omega
theorem SyC.snoc {w : World} {s : SY} {a : Option Addr} {c : Nat} (hr : Rs w a s.2.1.length c s.2.1) (hy : Ty w a) : ∀ (l : List SY) (cs : List Value), SyC w l cs → SyC w (l ++ [s]) (cs ++ [.int .i64 s.1, .slice a s.2.1.length c, .int .i64 s.2.2]) := by
 intro l
 induction l with
 | nil =>
  intro cs h
  have : cs = [] := h
  subst this
  exact ⟨a, c, [], rfl, hr, hy, rfl⟩
 | cons x l ih =>
  intro cs h
  obtain ⟨a', c', cs', rfl, hr', hy', ht⟩ := h
  exact ⟨a', c', _, rfl, hr', hy', ih _ ht⟩
def SymsV (D : Nat → Prop) (w : World) (v : Value) (l : List SY) : Prop := ∃ a c cs, v = .slice a l.length c ∧ RowT 64 D w a l.length c cs ∧ SyC w l cs
def SqC (D : Nat → Prop) (w : World) : List (List SY) → List Value → Prop
 | [], cs => cs = []
 | l :: A, cs => ∃ c0 cs', cs = c0 :: cs' ∧ SymsV D w c0 l ∧ SqC D w A cs'
def AltV (D : Nat → Prop) (w : World) (v : Value) (A : List (List SY)) : Prop := ∃ a c cs, v = .slice a A.length c ∧ RowT 46 D w a A.length c cs ∧ SqC D w A cs
def NotV (w : World) (v : Value) (N : List (Int × Int)) : Prop := ∃ a c, v = .slice a N.length c ∧ Rs w a N.length c N ∧ Ty w a
def PrC (D : Nat → Prop) (w : World) : List PRD → List Value → Prop
 | [], cs => cs = []
 | p :: l, cs => ∃ c0 c2 cs', cs = c0 :: .int .i64 p.2.1 :: c2 :: cs' ∧ AltV D w c0 p.1 ∧ NotV w c2 p.2.2 ∧ PrC D w l cs'
def MadeV (D : Nat → Prop) (w : World) (B : Nat) (v : Value) (l : List PRD) : Prop := l.length ≤ 60 ∧ ∃ cs, w.ownsRow B 45 3 v l.length cs ∧ PrC D w l cs
def LV (w : World) (B : Nat) (v : Value) (l : List SY) : Prop := l.length ≤ 41 ∧ ∃ cs, w.ownsRow B 64 3 v l.length cs ∧ SyC w l cs
def AlV (D : Nat → Prop) (w : World) (B : Nat) (v : Value) (A : List (List SY)) : Prop := A.length ≤ 9 ∧ ∃ cs, w.ownsRow B 46 1 v A.length cs ∧ SqC D w A cs
/-! ### What stays -/
def Kp (D D' : Nat → Prop) (w X : World) : Prop := KR w X ∧ ∀ g cur fr t, (t = 64 ∨ t = 46) → D g → w.heap[g]? = some (.cells cur t fr) → D' g ∧ X.heap[g]? = some (.cells cur t fr)
theorem Kp.weak {D D' : Nat → Prop} (w : World) (h : ∀ g, D g → D' g) : Kp D D' w w := ⟨KR.refl w, fun g cur fr t _ hd hg => ⟨h g hd, hg⟩⟩
theorem Kp.of {D : Nat → Prop} {w X : World} (h : Below w.heap.size w X) : Kp D D w X := ⟨KR.of h, fun g cur fr t _ hd hg => ⟨hd, (h.block g (Array.getElem?_eq_some_iff.1 hg).1).trans hg⟩⟩
theorem Kp.then {D D' D'' : Nat → Prop} {w X Y : World} (h : Kp D D' w X) (k : Kp D' D'' X Y) : Kp D D'' w Y := ⟨h.1.then k.1, fun g cur fr t ht hd hg => k.2 g cur fr t ht (h.2 g cur fr t ht hd hg).1 (h.2 g cur fr t ht hd hg).2⟩
theorem SymsV.kp {D D' : Nat → Prop} {w X : World} (k : Kp D D' w X) {v : Value} {l : List SY} (h : SymsV D w v l) : SymsV D' X v l := by
 obtain ⟨a, c, cs, e, hr, hs⟩ := h
 exact ⟨a, c, cs, e, hr.kept (fun g cur fr hd hg => k.2 g cur fr _ (.inl rfl) hd hg), SyC.kr k.1 _ _ hs⟩
theorem SqC.kp {D D' : Nat → Prop} {w X : World} (k : Kp D D' w X) : ∀ (A : List (List SY)) (cs : List Value), SqC D w A cs → SqC D' X A cs := by
 intro A
 induction A with
 | nil => intro cs h; exact h
 | cons l A ih =>
  intro cs h
  obtain ⟨c0, cs', e, hs, ht⟩ := h
  exact ⟨c0, cs', e, hs.kp k, ih _ ht⟩
theorem AltV.kp {D D' : Nat → Prop} {w X : World} (k : Kp D D' w X) {v : Value} {A : List (List SY)} (h : AltV D w v A) : AltV D' X v A := by
 obtain ⟨a, c, cs, e, hr, hs⟩ := h
 exact ⟨a, c, cs, e, hr.kept (fun g cur fr hd hg => k.2 g cur fr _ (.inr rfl) hd hg), SqC.kp k _ _ hs⟩
theorem NotV.kr {w X : World} (k : KR w X) {v : Value} {N : List (Int × Int)} (h : NotV w v N) : NotV X v N := by
 obtain ⟨a, c, e, hr, hy⟩ := h
 obtain ⟨hr', hy'⟩ := vJ k hr hy
 exact ⟨a, c, e, hr', hy'⟩
theorem PrC.kp {D D' : Nat → Prop} {w X : World} (k : Kp D D' w X) : ∀ (l : List PRD) (cs : List Value), PrC D w l cs → PrC D' X l cs := by
 intro l
 induction l with
 | nil => intro cs h; exact h
 | cons p l ih =>
  intro cs h
  obtain ⟨c0, c2, cs', e, ha, hn, ht⟩ := h
  exact ⟨c0, c2, cs', e, ha.kp k, hn.kr k.1, ih _ ht⟩
theorem PrC.len {D : Nat → Prop} {w : World} : ∀ (l : List PRD) (cs : List Value), PrC D w l cs → cs.length = 3 * l.length := by
 intro l
 induction l with
 | nil => intro cs h; have : cs = [] := h; subst this; rfl
 | cons s l ih =>
  intro cs h
  obtain ⟨c0, c2, cs', rfl, -, -, ht⟩ := h
  have := ih _ ht
  simp only [List.length_cons, this]; omega
theorem PrC.snoc {D : Nat → Prop} {w : World} {p : PRD} {c0 c2 : Value} (ha : AltV D w c0 p.1) (hn : NotV w c2 p.2.2) : ∀ (l : List PRD) (cs : List Value), PrC D w l cs → PrC D w (l ++ [p]) (cs ++ [c0, .int .i64 p.2.1, c2]) := by
 intro l
 induction l with
 | nil =>
  intro cs h
  have : cs = [] := h
  subst this
  exact ⟨c0, c2, [], rfl, ha, hn, rfl⟩
 | cons x l ih =>
  intro cs h
  obtain ⟨d0, d2, cs', rfl, ha', hn', ht⟩ := h
  exact ⟨d0, d2, _, rfl, ha', hn', ih _ ht⟩
theorem PrC.set {D : Nat → Prop} {w : World} {A : List (List SY)} {v : Value} (ha : AltV D w v A) : ∀ (l : List PRD) (cs : List Value) (n : Nat), n < l.length → PrC D w l cs → PrC D w (setA l n A) (cs.set (3 * n) v) := by
 intro l
 induction l with
 | nil => intro cs n hn h; simp at hn
 | cons x l ih =>
  intro cs n hn h
  obtain ⟨d0, d2, cs', rfl, ha', hn', ht⟩ := h
  cases n with
  | zero => exact ⟨v, d2, cs', by simp, ha, hn', ht⟩
  | succ n =>
   refine ⟨d0, d2, cs'.set (3 * n) v, ?_, ha', hn', ih _ n (by simp at hn; omega) ht⟩
   rw [show 3 * (n + 1) = 3 * n + 1 + 1 + 1 by omega]
   simp
theorem SqC.snoc {D : Nat → Prop} {w : World} {l : List SY} {v : Value} (hv : SymsV D w v l) : ∀ (A : List (List SY)) (cs : List Value), SqC D w A cs → SqC D w (A ++ [l]) (cs ++ [v]) := by
 intro A
 induction A with
 | nil =>
  intro cs h
  have : cs = [] := h
  subst this
  exact ⟨v, [], rfl, hv, rfl⟩
 | cons x A ih =>
  intro cs h
  obtain ⟨d0, cs', rfl, ha', ht⟩ := h
  exact ⟨d0, _, rfl, ha', ih _ ht⟩
theorem LV.syms {D : Nat → Prop} {w : World} {B : Nat} {v : Value} {l : List SY} (h : LV w B v l) (hD : ∀ g, v.ownBlock = some g → D g) : SymsV D w v l := by
 obtain ⟨-, cs, own, hs⟩ := h
 obtain ⟨a, c, rfl⟩ := xo own
 exact ⟨a, c, cs, rfl, RowT.ofOwn own hD, hs⟩
theorem AlV.alt {D : Nat → Prop} {w : World} {B : Nat} {v : Value} {A : List (List SY)} (h : AlV D w B v A) (hD : ∀ g, v.ownBlock = some g → D g) : AltV D w v A := by
 obtain ⟨-, cs, own, hs⟩ := h
 obtain ⟨a, c, rfl⟩ := xo own
 exact ⟨a, c, cs, rfl, RowT.ofOwn own hD, hs⟩
theorem LV.form {w : World} {B : Nat} {v : Value} {l : List SY} (h : LV w B v l) : ∃ a c, v = .slice a l.length c := by
 obtain ⟨-, cs, own, hs⟩ := h
 exact xo own
theorem LV.nil (w : World) (B : Nat) : LV w B (.slice none 0 0) [] := ⟨Nat.zero_le _, [], World.ownsRow_nil w B _ _, rfl⟩
theorem LV.later {w X : World} {B : Nat} {v : Value} {l : List SY} (h : LV w B v l) (b : Below w.heap.size w X) : LV X B v l := by
 obtain ⟨h1, cs, own, hs⟩ := h
 exact ⟨h1, cs, ju b own, SyC.kr (KR.of b) _ _ hs⟩
/-! ### Names -/
def Nm (w : World) (m : Nat) (ns : List (List Int)) : Prop :=
 ∃ es clock, w.heap[m]? = some (.map es clock) ∧ es.size = ns.length ∧ (∀ x ∈ ns, U.zq x) ∧ ∀ x, U.zq x → Instr.findNow .string (.string (strOfNums x)) es.toList 0 = some ((idx x ns 0).map fun n => (n, .int .i64 (n : Nat)))
theorem Nm.keep {w X : World} {m : Nat} {ns : List (List Int)} (h : Nm w m ns) (k : ∀ o, w.heap[m]? = some o → (∀ cs t fr, o ≠ .cells cs t fr) → X.heap[m]? = some o) : Nm X m ns := by
 obtain ⟨es, clock, h1, h2, h3, h4⟩ := h
 exact ⟨es, clock, k _ h1 (fun _ _ _ e => by cases e), h2, h3, h4⟩
theorem Nm.later {w X : World} {m : Nat} {ns : List (List Int)} (h : Nm w m ns) (b : Below w.heap.size w X) : Nm X m ns :=
 h.keep fun o ho _ => (b.block m (Array.getElem?_eq_some_iff.1 ho).1).trans ho
theorem Nm.lt {w : World} {m : Nat} {ns : List (List Int)} (h : Nm w m ns) : m < w.heap.size := by
 obtain ⟨es, clock, h1, -⟩ := h
 exact (Array.getElem?_eq_some_iff.1 h1).1
theorem Nm.new (w : World) : Nm (w.alloc (.map #[] 0)) w.heap.size [] := ⟨#[], 0, heap_alloc_new w _, rfl, ⟨fun x hx => (by cases hx), fun x hx => rfl⟩⟩
theorem idx_snoc (x y : List Int) : ∀ (ns : List (List Int)) (i : Nat), idx x (ns ++ [y]) i = match idx x ns i with | some n => some n | none => if x = y then some (i + ns.length) else none := by
 intro ns
 induction ns with
 | nil => intro i; simp [idx]
 | cons z ns ih =>
  intro i
  simp only [List.cons_append, idx]
  by_cases h : x = z
  ·simp [h]
  ·rw [if_neg h, if_neg h, ih (i + 1)]
   simp only [List.length_cons]
   rw [show i + 1 + ns.length = i + (ns.length + 1) by omega]
theorem ck_str (e : Bool) (s : ByteArray) (W : World) : (Instr.checkKey e 10000 9 (.string s)).run Tryz.prog W = .ok () W := by
 show (Instr.checkKey e (9999 + 1) 9 (.string s)).run Tryz.prog W = .ok () W
 rw [Instr.checkKey]
 simp [run_underlying Tryz.underlying9]
theorem str_same {x y : List Int} (hx : U.zq x) (hy : U.zq y) : (strOfNums x == strOfNums y) = decide (x = y) := by
 rw [beq_toListBytes]
 exact str_eq_list (St.of hx) (St.of hy)
theorem Nm.put {w : World} {m : Nat} {ns : List (List Int)} (h : Nm w m ns) {x : List Int} (hx : U.zq x) (hn : idx x ns 0 = none) :
  ∃ w', (Instr.mapUpdate 79 (.map (some m)) (.string (strOfNums x)) (.int .i64 (ns.length : Nat))).run Tryz.prog w = .ok () w' ∧ Nm w' m (ns ++ [x]) ∧ w'.heap.size = w.heap.size ∧ (∀ k, k ≠ m → w'.heap[k]? = w.heap[k]?) ∧ w'.os = w.os ∧ w'.tape = w.tape ∧ w'.output = w.output := by
 obtain ⟨es, clock, hb, hs, hbs, hf⟩ := h
 have hlt := (Array.getElem?_eq_some_iff.1 hb).1
 have hnow := hf x hx
 rw [hn] at hnow
 refine ⟨{ w with heap := w.heap.setIfInBounds m (.map (es.push { key := .string (strOfNums x), val := .int .i64 (ns.length : Nat), born := clock }) (clock + 1)) }, ?_, ?_, by simp, fun k hk => by simp [Array.getElem?_setIfInBounds, Ne.symm hk], rfl, rfl, rfl⟩
 ·simp [Instr.mapUpdate, run_underlying Tryz.underlying79, getObj, setObj, hb, ck_str, run_underlying Tryz.underlying9, Instr.findKey, hnow, Sem.run]
 ·refine ⟨es.push { key := .string (strOfNums x), val := .int .i64 (ns.length : Nat), born := clock }, clock + 1, by simp [Array.getElem?_setIfInBounds, hlt], by simp [hs], ?_, fun y hy => ?_⟩
  ·intro y hy
   rcases List.mem_append.1 hy with h | h
   ·exact hbs y h
   ·simp at h; subst h; exact hx
  ·rw [Array.toList_push, find_app, idx_snoc, hf y hy]
   cases e : idx y ns 0 with
   | some n => rfl
   | none =>
    simp only [Option.map_none]
    unfold Instr.findNow Instr.sameNow
    simp only [str_same hy hx]
    by_cases c : y = x
    ·simp [c, hs]
    ·simp [c, Instr.findNow]
theorem Nm.get {w : World} {m : Nat} {ns : List (List Int)} (h : Nm w m ns) {x : List Int} (hx : U.zq x) :
  (Instr.lookup 79 (.map (some m)) (.string (strOfNums x)) true).run Tryz.prog w = .ok (.tuple #[.int .i64 (((idx x ns 0).getD 0 : Nat) : Int), .bool (idx x ns 0).isSome]) w := by
 obtain ⟨es, clock, hb, hs, hbs, hf⟩ := h
 have hz : (zeroValue 3).run Tryz.prog w = .ok (.int .i64 0) w := by kernel_rfl
 have hnow := hf x hx
 cases e : idx x ns 0 with
 | none =>
  rw [e] at hnow
  simp [Instr.lookup, run_underlying Tryz.underlying79, getObj, hb, ck_str, run_underlying Tryz.underlying9, Instr.findKey, hnow, hz, Sem.run]
 | some n =>
  rw [e] at hnow
  simp [Instr.lookup, run_underlying Tryz.underlying79, getObj, hb, ck_str, run_underlying Tryz.underlying9, Instr.findKey, hnow, Sem.run]
/-! ### The maker -/
def wayV (f b : Nat) : Value := .func (.func f) #[.pointer (some ⟨b, 0, none⟩)] #[]
def qk (v : Value) (m b : Nat) (d : Int) (s : Mk) : Array Value :=
 #[v, .map (some m), wayV 73 b, wayV 74 b, wayV 75 b, wayV 76 b, wayV 77 b, wayV 78 b, wayV 79 b, wayV 80 b, wayV 81 b, .int .i64 d, .int .i64 s.left, .int .i64 s.pl, .int .i64 s.why]
structure MakV (D : Nat → Prop) (w : World) (B b m : Nat) (ns : List (List Int)) (d : Int) (v : Value) (s : Mk) : Prop where
 hB : B ≤ b
 hm : B ≤ m
 d0 : 0 ≤ d ∧ d ≤ 131072
 l0 : 0 ≤ s.left ∧ s.left ≤ 2147483647
 cells : w.heap[b]? = some (.cells (qk v m b d s) 84)
 made : MadeV D w B v s.made
 names : Nm w m ns
def Mak (D : Nat → Prop) (w : World) (B b m : Nat) (ns : List (List Int)) (d : Int) (s : Mk) : Prop := ∃ v, MakV D w B b m ns d v s
structure Fl (B b : Nat) (x : Option Nat) (w w' : World) : Prop where
 os : w'.os = w.os
 tape : w'.tape = w.tape
 output : w'.output = w.output
 size : w.heap.size ≤ w'.heap.size
 low : ∀ k, k < B → k < w.heap.size → w'.heap[k]? = w.heap[k]?
 block : ∀ k o, w.heap[k]? = some o → k ≠ b → some k ≠ x → (∀ cs fr, o ≠ .cells cs 45 fr) → w'.heap[k]? = some o
theorem Fl.refl (B b : Nat) (x : Option Nat) (w : World) : Fl B b x w w := ⟨rfl, rfl, rfl, Nat.le_refl _, fun _ _ _ => rfl, fun _ _ h _ _ _ => h⟩
theorem Fl.of {B b : Nat} {x : Option Nat} {w X : World} (h : Below w.heap.size w X) : Fl B b x w X :=
 ⟨h.os, h.tape, h.output, h.size, fun k _ h2 => h.block k h2, fun k o h1 _ _ _ => (h.block k (Array.getElem?_eq_some_iff.1 h1).1).trans h1⟩
theorem Fl.then {B b : Nat} {x y : Option Nat} {w X Y : World} (h : Fl B b x w X) (k : Fl B b y X Y) (hy : ∀ g, y = some g → x = some g ∨ w.heap.size ≤ g) : Fl B b x w Y :=
 ⟨k.os.trans h.os, k.tape.trans h.tape, k.output.trans h.output, Nat.le_trans h.size k.size, fun i h1 h2 => (k.low i h1 (Nat.lt_of_lt_of_le h2 h.size)).trans (h.low i h1 h2), fun i o h1 h2 h3 h4 => k.block i o (h.block i o h1 h2 h3 h4) h2 (fun e => by
  rcases hy i e.symm with c | c
  ·exact h3 c.symm
  ·have := (Array.getElem?_eq_some_iff.1 h1).1; omega) h4⟩
theorem Fl.none {B b : Nat} {x : Option Nat} {w X : World} (h : Fl B b none w X) : Fl B b x w X := ⟨h.os, h.tape, h.output, h.size, h.low, fun k o h1 h2 _ h4 => h.block k o h1 h2 (fun e => by cases e) h4⟩
theorem Fl.set {B b : Nat} {x : Option Nat} (w : World) (hB : B ≤ b) (i : Nat) (u : Value) : Fl B b x w (w.setCell ⟨b, i, Option.none⟩ u) :=
 ⟨rfl, rfl, rfl, by simp, fun k h1 h2 => Below.heap_setCell w ⟨b, i, Option.none⟩ u k (by simp only; omega), fun k o h1 h2 _ _ => zj h1 h2 u⟩
theorem Fl.below {B b : Nat} {x : Option Nat} {w X : World} (h : Fl B b x w X) (hB : B ≤ w.heap.size) : Below B w X := ⟨h.os, h.tape, h.output, h.size, fun k hk => h.low k hk (by omega)⟩
theorem Fl.grown {B b : Nat} {x : Option Nat} {w X : World} (h : w.grownBy X x) (hx : ∀ k, x = some k → B ≤ k) : Fl B b x w X :=
 ⟨h.os, h.tape, h.output, h.size, fun k h1 h2 => h.block k h2 (fun e => by have := hx k e.symm; omega), fun k o h1 _ h3 _ => (h.block k (Array.getElem?_eq_some_iff.1 h1).1 h3).trans h1⟩
theorem Fl.grownP {B b : Nat} {x row : Option Nat} {w X : World} (h : w.grownBy X row) (hx : ∀ k, row = some k → B ≤ k ∧ ∃ cs fr, w.heap[k]? = some (.cells cs 45 fr)) : Fl B b x w X :=
 ⟨h.os, h.tape, h.output, h.size, fun k h1 h2 => h.block k h2 (fun e => by have := (hx k e.symm).1; omega), fun k o h1 _ _ h4 => (h.block k (Array.getElem?_eq_some_iff.1 h1).1 (fun e => by
  obtain ⟨-, cs, fr, hc⟩ := hx k e.symm
  rw [h1] at hc; injection hc with hc; exact h4 cs fr hc)).trans h1⟩
theorem Fl.kr {B b : Nat} {x : Option Nat} {w X : World} (h : Fl B b x w X) {cs : Array Value} {fr : Nat × Nat} (hb : w.heap[b]? = some (.cells cs 84 fr)) (hx : ∀ k, x = some k → ∃ cs fr, w.heap[k]? = some (.cells cs 64 fr)) : KR w X := fun g cs' fr' hg => by
 refine h.block g _ hg (yz hg hb (by decide)) (fun e => ?_) (fun cs2 fr2 e => ?_)
 ·obtain ⟨cs2, fr2, h2⟩ := hx g e.symm
  exact yz hg h2 (by decide) rfl
 ·injection e with _ e; exact absurd e (by decide)
theorem Fl.kp {B b : Nat} {x : Option Nat} {w X : World} (h : Fl B b x w X) {cs : Array Value} {fr : Nat × Nat} (hb : w.heap[b]? = some (.cells cs 84 fr)) (hx : ∀ k, x = some k → ∃ cs fr, w.heap[k]? = some (.cells cs 64 fr)) {D D' : Nat → Prop} (hD : ∀ g, g < w.heap.size → D g → some g ≠ x ∧ D' g) : Kp D D' w X := by
 refine ⟨h.kr hb hx, fun g cur fr' t ht hd hg => ?_⟩
 have hd' := hD g (Array.getElem?_eq_some_iff.1 hg).1 hd
 refine ⟨hd'.2, h.block g _ hg (yz hg hb ?_) hd'.1 (fun cs2 fr2 e => ?_)⟩
 ·rcases ht with rfl | rfl <;> decide
 ·injection e with _ e
  rcases ht with rfl | rfl <;> exact absurd e (by decide)
theorem gb_of {w X : World} (h : Below w.heap.size w X) (row : Option Nat) : w.grownBy X row := ⟨h.os, h.tape, h.output, h.size, fun k hk _ => h.block k hk⟩
theorem gb_then {w W X : World} {row : Option Nat} (h : Below w.heap.size w W) (g : W.grownBy X row) : w.grownBy X row := ⟨g.os.trans h.os, g.tape.trans h.tape, g.output.trans h.output, Nat.le_trans h.size g.size, fun k hk hn => (g.block k (Nat.lt_of_lt_of_le hk h.size) hn).trans (h.block k hk)⟩
def Nx (w : World) (v v' : Value) : Prop := ∀ g, v'.ownBlock = some g → v.ownBlock = some g ∨ w.heap.size ≤ g
theorem Nx.refl (w : World) (v : Value) : Nx w v v := fun g h => .inl h
theorem LV.block {w : World} {B : Nat} {v : Value} {l : List SY} (h : LV w B v l) : ∀ k, v.ownBlock = some k → ∃ cs fr, w.heap[k]? = some (.cells cs 64 fr) := by
 obtain ⟨-, cs, own, -⟩ := h
 intro k hk
 obtain ⟨cs', hc⟩ := je own k hk
 exact ⟨cs', _, hc⟩
theorem LV.lt {w : World} {B : Nat} {v : Value} {l : List SY} (h : LV w B v l) : ∀ k, v.ownBlock = some k → B ≤ k ∧ k < w.heap.size := by
 obtain ⟨-, cs, own, -⟩ := h
 exact own.lt
theorem MadeV.block {D : Nat → Prop} {w : World} {B : Nat} {v : Value} {l : List PRD} (h : MadeV D w B v l) : ∀ k, v.ownBlock = some k → B ≤ k ∧ ∃ cs fr, w.heap[k]? = some (.cells cs 45 fr) := by
 obtain ⟨-, cs, own, -⟩ := h
 intro k hk
 obtain ⟨cs', hc⟩ := je own k hk
 exact ⟨(own.lt k hk).1, cs', _, hc⟩
theorem MadeV.form {D : Nat → Prop} {w : World} {B : Nat} {v : Value} {l : List PRD} (h : MadeV D w B v l) : ∃ a c, v = .slice a l.length c := by
 obtain ⟨-, cs, own, -⟩ := h
 exact xo own
theorem Zi {w X : World} {B : Nat} {t : TypeId} {sz : Nat} {v : Value} {n : Nat} {cs : List Value} (h : w.ownsRow B t sz v n cs) (k : ∀ g o, v.ownBlock = some g → w.heap[g]? = some o → X.heap[g]? = some o) : X.ownsRow B t sz v n cs := by
 refine ⟨h.1, ?_⟩
 rcases h.2 with hn | ⟨g, cap, cur, e, hb, hg, rest⟩
 ·exact .inl hn
 ·exact .inr ⟨g, cap, cur, e, hb, k g _ (by rw [e]; rfl) hg, rest⟩
theorem LV.fl {B b : Nat} {x : Option Nat} {w X : World} {v : Value} {l : List SY} (h : LV w B v l) (f : Fl B b x w X) {cs : Array Value} {fr : Nat × Nat} (hb : w.heap[b]? = some (.cells cs 84 fr)) (hx : ∀ k, x = some k → ∃ cs fr, w.heap[k]? = some (.cells cs 64 fr)) (hv : ∀ g, v.ownBlock = some g → x ≠ some g) : LV X B v l := by
 have hbl := h.block
 obtain ⟨h1, cs', own, hs⟩ := h
 refine ⟨h1, cs', Zi own (fun g o hg ho => ?_), SyC.kr (f.kr hb hx) _ _ hs⟩
 obtain ⟨c1, f1, hc⟩ := hbl g hg
 rw [hc] at ho
 injection ho with ho
 subst ho
 exact f.block g _ hc (yz hc hb (by decide)) (fun e => hv g hg e.symm) (fun c2 f2 e => by injection e with _ e; exact absurd e (by decide))
theorem AlV.fl {B b : Nat} {x : Option Nat} {w X : World} {D : Nat → Prop} {v : Value} {A : List (List SY)} (h : AlV D w B v A) (f : Fl B b x w X) {cs : Array Value} {fr : Nat × Nat} (hb : w.heap[b]? = some (.cells cs 84 fr)) (hx : ∀ k, x = some k → ∃ cs fr, w.heap[k]? = some (.cells cs 64 fr)) {D' : Nat → Prop} (hD : ∀ g, g < w.heap.size → D g → some g ≠ x ∧ D' g) : AlV D' X B v A := by
 obtain ⟨h1, cs', own, hs⟩ := h
 refine ⟨h1, cs', Zi own (fun g o hg ho => ?_), SqC.kp (f.kp hb hx hD) _ _ hs⟩
 obtain ⟨c1, hc⟩ := je own g hg
 rw [hc] at ho
 injection ho with ho
 subst ho
 refine f.block g _ hc (yz hc hb (by decide)) (fun e => ?_) (fun c2 f2 e => by injection e with _ e; exact absurd e (by decide))
 obtain ⟨c3, f3, h3⟩ := hx g e.symm
 exact yz hc h3 (by decide) rfl
/-! ### Parts that lie in blocks below B -/
def Lo (B : Nat) (a : Option Addr) (n : Nat) : Prop := 0 < n → ∀ g off, a = some ⟨g, off, none⟩ → g < B
def PartB (B : Nat) : Nat → World → Value → PT → Prop
 | 0, _, _, _ => False
 | n + 1, w, v, p => ∃ k t R L q aR cR aL cL cs, p = mk k t R L q ∧ v = .agg #[.int .i64 k, .string (strOfNums t), .slice aR R.length cR, .slice aL L.length cL, .int .i64 q] ∧ zW k ∧ U.zq t ∧ zW q ∧ Rs w aR R.length cR R ∧ Lo B aR R.length ∧ Row5 (fun g => g < B) w aL L.length cL cs ∧ PtC (PartB B n w) L cs
theorem rs_lo {B B' : Nat} {w X : World} (k : ∀ g, g < B → g < B' ∧ X.heap[g]? = w.heap[g]?) {a : Option Addr} {len cap : Nat} {l : List (Int × Int)} (hr : Rs w a len cap l) (hl : Lo B a len) : Rs X a len cap l ∧ Lo B' a len := by
 refine ⟨⟨hr.hlen, hr.hcap, hr.hmax, hr.hfit, fun i hi => ?_⟩, fun hp g off e => (k g (hl hp g off e)).1⟩
 obtain ⟨b, off, e, h1, h2⟩ := hr.hcell i hi
 have hb := (k b (hl (by omega) b off e)).2
 exact ⟨b, off, e, by rw [World.cell?_of_block hb]; exact h1, by rw [World.cell?_of_block hb]; exact h2⟩
theorem PartB.kept {B B' : Nat} {w X : World} (k : ∀ g, g < B → g < B' ∧ X.heap[g]? = w.heap[g]?) (kr : KR w X) : ∀ (n : Nat) (v : Value) (p : PT), PartB B n w v p → PartB B' n X v p := by
 intro n
 induction n with
 | zero => intro v p h; exact h
 | succ n ih =>
  intro v p h
  obtain ⟨kk, t, R, L, q, aR, cR, aL, cL, cs, e1, e2, h1, h2, h3, h4, h5, h6, h7⟩ := h
  obtain ⟨h4', h5'⟩ := rs_lo k h4 h5
  exact ⟨kk, t, R, L, q, aR, cR, aL, cL, cs, e1, e2, h1, h2, h3, h4', h5', h6.kept k, PtC.mono (fun v p hp => ih v p hp) _ _ h7⟩
theorem PartB.up {B : Nat} {w : World} : ∀ (n m : Nat), n ≤ m → ∀ (v : Value) (p : PT), PartB B n w v p → PartB B m w v p := by
 intro n
 induction n with
 | zero => intro m _ v p h; exact h.elim
 | succ n ih =>
  intro m hm v p h
  cases m with
  | zero => omega
  | succ m =>
   obtain ⟨kk, t, R, L, q, aR, cR, aL, cL, cs, e1, e2, h1, h2, h3, h4, h5, h6, h7⟩ := h
   exact ⟨kk, t, R, L, q, aR, cR, aL, cL, cs, e1, e2, h1, h2, h3, h4, h5, h6, PtC.mono (fun v p hp => ih m (by omega) v p hp) _ _ h7⟩
theorem ty_lo {w : World} {a : Option Addr} (h : Ty w a) (n : Nat) : Lo w.heap.size a n := fun _ g off e => by
 obtain ⟨cs, fr, hg⟩ := h g off e
 exact (Array.getElem?_eq_some_iff.1 hg).1
theorem PartB.of {D : Nat → Prop} {w : World} (hD : ∀ g, D g → g < w.heap.size) : ∀ (n : Nat) (v : Value) (p : PT), PartV D n w v p → PartB w.heap.size n w v p := by
 intro n
 induction n with
 | zero => intro v p h; exact h.elim
 | succ n ih =>
  intro v p h
  obtain ⟨kk, t, R, L, q, aR, cR, aL, cL, cs, e1, e2, h1, h2, h3, h4, h5, h6, h7⟩ := h
  exact ⟨kk, t, R, L, q, aR, cR, aL, cL, cs, e1, e2, h1, h2, h3, h4, ty_lo h5 _, h6.kept (fun g hg => ⟨hD g hg, rfl⟩), PtC.mono (fun v p hp => ih v p hp) _ _ h7⟩
theorem PartB.fl {B b : Nat} {x : Option Nat} {w X : World} (f : Fl B b x w X) {cs : Array Value} {fr : Nat × Nat} (hb : w.heap[b]? = some (.cells cs 84 fr)) (hx : ∀ k, x = some k → ∃ cs fr, w.heap[k]? = some (.cells cs 64 fr)) (hB : B ≤ w.heap.size) {n : Nat} {v : Value} {p : PT} (h : PartB B n w v p) : PartB B n X v p :=
 PartB.kept (fun g hg => ⟨hg, f.low g hg (by omega)⟩) (f.kr hb hx) n v p h
theorem MakV.re {D D' : Nat → Prop} {w X : World} {B b m : Nat} {ns : List (List Int)} {d d' : Int} {v : Value} {s s' : Mk} {x : Option Nat} (h : MakV D w B b m ns d v s) (f : Fl B b x w X) (hx : ∀ k, x = some k → ∃ cs fr, w.heap[k]? = some (.cells cs 64 fr)) (hD : ∀ g, g < w.heap.size → D g → some g ≠ x ∧ D' g)
  (hc : X.heap[b]? = some (.cells (qk v m b d' s') 84)) (hk : ∀ g o, v.ownBlock = some g → w.heap[g]? = some o → X.heap[g]? = some o) (e : s'.made = s.made) (hd : 0 ≤ d' ∧ d' ≤ 131072) (hl : 0 ≤ s'.left ∧ s'.left ≤ 2147483647) : MakV D' X B b m ns d' v s' := by
 obtain ⟨h1, h2, h3, h4, h5, ⟨h6, cs, own, hp⟩, h7⟩ := h
 refine ⟨h1, h2, hd, hl, hc, ⟨by rw [e]; exact h6, cs, by rw [e]; exact Zi own hk, by rw [e]; exact PrC.kp (f.kp h5 hx hD) _ _ hp⟩, h7.keep fun o ho hno => ?_⟩
 refine f.block m o ho (fun c => ?_) (fun c => ?_) (fun cs' fr => hno _ _ _)
 ·subst c; rw [h5] at ho; injection ho with ho; exact hno _ _ _ ho.symm
 ·obtain ⟨cs', fr, hg⟩ := hx m c.symm
  rw [hg] at ho; injection ho with ho; exact hno _ _ _ ho.symm
theorem Zk (w : World) : ∀ k, (none : Option Nat) = some k → ∃ cs fr, w.heap[k]? = some (.cells cs 64 fr) := fun k e => by cases e
theorem no_d {D : Nat → Prop} (w : World) : ∀ g, g < w.heap.size → D g → some g ≠ none ∧ D g := fun g _ h => ⟨by simp, h⟩
theorem MakV.made_ne {D : Nat → Prop} {w : World} {B b m : Nat} {ns : List (List Int)} {d : Int} {v : Value} {s : Mk} (h : MakV D w B b m ns d v s) : ∀ g, v.ownBlock = some g → g ≠ b := by
 intro g hg
 obtain ⟨-, cs, fr, hc⟩ := h.made.block g hg
 exact yz hc h.cells (by decide)
theorem MakV.later {D : Nat → Prop} {w X : World} {B b m : Nat} {ns : List (List Int)} {d : Int} {v : Value} {s : Mk} (h : MakV D w B b m ns d v s) (k : Below w.heap.size w X) : MakV D X B b m ns d v s :=
 h.re (x := none) (Fl.of k) (Zk w) (no_d w) ((k.block b (Array.getElem?_eq_some_iff.1 h.cells).1).trans h.cells) (fun g o _ ho => (k.block g (Array.getElem?_eq_some_iff.1 ho).1).trans ho) rfl h.d0 h.l0
theorem MakV.weak {D D' : Nat → Prop} {w : World} {B b m : Nat} {ns : List (List Int)} {d : Int} {v : Value} {s : Mk} (h : MakV D w B b m ns d v s) (k : ∀ g, g < w.heap.size → D g → D' g) : MakV D' w B b m ns d v s :=
 h.re (x := none) (Fl.refl _ _ _ _) (Zk w) (fun g hg hd => ⟨by simp, k g hg hd⟩) h.cells (fun g o _ ho => ho) rfl h.d0 h.l0
theorem MakV.lt {D : Nat → Prop} {w : World} {B b m : Nat} {ns : List (List Int)} {d : Int} {v : Value} {s : Mk} (h : MakV D w B b m ns d v s) : b < w.heap.size := (Array.getElem?_eq_some_iff.1 h.cells).1
theorem yK {W : World} {v : Value} {m b : Nat} {d : Int} {s : Mk} (h : W.heap[b]? = some (.cells (qk v m b d s) 84)) :
  W.cell? ⟨b, 0, none⟩ = some v ∧ W.cell? ⟨b, 1, none⟩ = some (.map (some m)) ∧ W.cell? ⟨b, 11, none⟩ = some (.int .i64 d) ∧ W.cell? ⟨b, 12, none⟩ = some (.int .i64 s.left) ∧ W.cell? ⟨b, 13, none⟩ = some (.int .i64 s.pl) ∧ W.cell? ⟨b, 14, none⟩ = some (.int .i64 s.why) ∧
  W.frozen? ⟨b, 0, none⟩ = false ∧ W.frozen? ⟨b, 11, none⟩ = false ∧ W.frozen? ⟨b, 12, none⟩ = false ∧ W.frozen? ⟨b, 13, none⟩ = false ∧ W.frozen? ⟨b, 14, none⟩ = false := by
 unfold qk at h
 refine ⟨?_, ?_, ?_, ?_, ?_, ?_, ?_, ?_, ?_, ?_, ?_⟩ <;> simp [World.cell?, World.frozen?, h]
theorem stop_zero {s : Mk} (h : s.why = 0) (q y : Int) : s.stop q y = ⟨s.made, s.left, q, y⟩ := by unfold Mk.stop; rw [if_pos h]
theorem stop_kept {s : Mk} (h : s.why ≠ 0) (q y : Int) : s.stop q y = s := by unfold Mk.stop; rw [if_neg h]
theorem YJ {D : Nat → Prop} {w : World} {B b m : Nat} {ns : List (List Int)} {d : Int} {v : Value} {s : Mk} (h : MakV D w B b m ns d v s) (q y : Int) :
  Calls Tryz.prog 125 #[.pointer (some ⟨b, 0, none⟩), .int .i64 q, .int .i64 y] w fun e w' => e = .returned (.tuple #[]) ∧ MakV D w' B b m ns d v (s.stop q y) ∧ Fl B b none w w' := by
 have hlt := h.lt
 obtain ⟨c0, c1, c11, c12, c13, c14, f0, f11, f12, f13, f14⟩ := yK h.cells
 by_cases hw : s.why = 0
 ·have HM := zx h
  rw [stop_zero hw]
  have hb : (s.why == 0) = true := by rw [hw]; rfl
  clear h c0 c1 c11 c12 f0 f11 f12
  have HW := zx hw
  clear hw
  go_enter Tryz.func125, Tryz.ntmps125
  go_wp2_with fail
  go_end0
  have hm := zy HM
  have fl : Fl B b none w ((w.setCell ⟨b, 13, none⟩ (.int .i64 q)).setCell ⟨b, 14, none⟩ (.int .i64 y)) := (Fl.set (x := none) w hm.hB 13 _).then (Fl.set (x := none) _ hm.hB 14 _) (fun g e => by cases e)
  refine ⟨rfl, hm.re (x := none) fl (Zk w) (no_d w) ?_ (fun g o hg ho => zj (zj ho (hm.made_ne g hg) _) (hm.made_ne g hg) _) rfl hm.d0 hm.l0, fl⟩
  have h1 := heap_setCell_same w b 13 _ _ (.int .i64 q) hm.cells
  have h2 := heap_setCell_same _ b 14 _ _ (.int .i64 y) h1
  rw [h2]
  simp [qk]
 ·have HM := zx h
  rw [stop_kept hw]
  have hb : (s.why == 0) = false := beq_eq_false_iff_ne.2 hw
  clear h hw c0 c1 c11 c12 f0 f11 f12
  go_enter Tryz.func125, Tryz.ntmps125
  go_wp2_with fail
  go_end0
  exact ⟨rfl, zy HM, Fl.refl _ _ _ _⟩
theorem tooLong_l (a : Option Addr) (n c : Nat) (w : World) : Calls Tryz.prog 127 #[.slice a n c] w fun e w' => e = .returned (.bool (decide ((40 : Int) < (n : Int)))) ∧ w' = w := by
 go_enter Tryz.func127, Tryz.ntmps127
 go_wp2_with fail
 go_ret
 exact ⟨rfl, rfl⟩
theorem sym_info : (Tryz.prog.info? 64).map (fun i => (i.zero, i.size, i.bytes)) = some (some (.agg #[.int .i64 0, .slice none 0 0, .int .i64 0]), 3, 40) := by kernel_rfl
theorem new_sym (w : World) (n : Nat) (x0 x1 x2 : Value) (hn : n = w.heap.size) : ∀ (j : Nat) (u : Value), [x0, x1, x2][j]? = some u → (w.alloc (.cells #[x0, x1, x2] 64)).cell? ((⟨n, 0, none⟩ : Addr).add j) = some u := by
 subst hn
 exact World.news_of_block (cs := #[x0, x1, x2]) (t := 64) (fr := (0, 0)) (heap_alloc_new w _)
theorem LV.grow {w W X : World} {B : Nat} {v : Value} {l : List SY} (h : LV w B v l) (k : Below w.heap.size w W) {s : SY} {a : Option Addr} {c gg cap : Nat} (hr : Rs w a s.2.1.length c s.2.1) (hy : Ty w a) (hl : l.length ≤ 40) {cs : List Value} (hs : SyC w l cs)
  (own : X.ownsRow B 64 3 (.slice (some ⟨gg, 0, none⟩) (l.length + 1) cap) (l.length + 1) (cs ++ [.int .i64 s.1, .slice a s.2.1.length c, .int .i64 s.2.2])) (hg : W.grownBy X v.ownBlock) : LV X B (.slice (some ⟨gg, 0, none⟩) (l.length + 1) cap) (l ++ [s]) ∧ KR w X := by
 have kr : KR w X := (KR.of k).then (KR.grown hg fun g e => by
  obtain ⟨cs, fr, hc⟩ := h.block g e
  exact ⟨cs, _, fr, (k.block g (Array.getElem?_eq_some_iff.1 hc).1).trans hc, by decide⟩)
 obtain ⟨hr', hy'⟩ := vJ kr hr hy
 exact ⟨⟨by rw [List.length_append]; simp; omega, _, by rw [List.length_append]; exact own, SyC.snoc hr' hy' _ _ (SyC.kr kr _ _ hs)⟩, kr⟩
theorem fput_l {w : World} {B : Nat} {v : Value} {l : List SY} (h : LV w B v l) (hB : B ≤ w.heap.size) (k n : Int) (R : List (Int × Int)) (a : Option Addr) (c : Nat) (hr : Rs w a R.length c R) (hy : Ty w a) :
  Calls Tryz.prog 126 #[v, .agg #[.int .i64 k, .slice a R.length c, .int .i64 n]] w fun e w' => ∃ v', e = .returned v' ∧ LV w' B v' (jW l (k, R, n)) ∧ w.grownBy w' v.ownBlock ∧ Nx w v v' ∧ KR w w' := by
 have HL := zx h
 obtain ⟨la, lc, rfl⟩ := h.form
 obtain ⟨h41, cs, own, hs⟩ := h
 have CT := zx (fun W => tooLong_l la l.length lc W)
 have HS := zx hs
 have HR := zx hr
 have HY := zx hy
 clear hr hy hs
 by_cases hl : 40 < l.length
 ·have hb : decide ((40 : Int) < (l.length : Int)) = true := decide_eq_true (by omega)
  have hp : jW l (k, R, n) = l := by unfold jW; rw [if_pos hl]
  rw [hb] at CT
  rw [hp]
  clear hp hb hl own
  go_enter Tryz.func126, Tryz.ntmps126
  go_wp2_with fail
  refine (zy CT _).mono ?_
  rintro e w1 ⟨rfl, hw1⟩
  subst hw1
  clear CT
  go_wp2_with fail
  go_ret
  exact ⟨_, rfl, (zy HL).later (Below.new1 _), gb_of (Below.new1 _) _, Nx.refl _ _, KR.of (Below.new1 _)⟩
 ·have hb : decide ((40 : Int) < (l.length : Int)) = false := decide_eq_false (by omega)
  have hp : jW l (k, R, n) = l ++ [(k, R, n)] := by unfold jW; rw [if_neg hl]
  rw [hb] at CT
  rw [hp]
  have hl40 : l.length ≤ 40 := by omega
  clear hp hb hl
  obtain ⟨ti, hi0, hz0, hz1, hz2⟩ := info_parts sym_info
  have HO := own
  clear own
  go_enter Tryz.func126, Tryz.ntmps126
  go_wp2_with fail
  refine (zy CT _).mono ?_
  rintro e w1 ⟨rfl, hw1⟩
  subst hw1
  clear CT
  go_wp2_with (at_builtin; refine wpList_append_lies _ rfl _ _ 46 rfl B 64 ti _ 3 40 Tryz.underlying46 hi0 hz0 hz1 hz2 rfl (by omega) _ _ _ rfl ((HO.alloc _).alloc _) ⟨w.heap.size + 1, 0, none⟩ 1 1 [.int .i64 k, .slice a R.length c, .int .i64 n] rfl rfl (new_sym _ _ _ _ _ (by simp)) (by simp [Value.oneCell']) (by omega) (by unfold maxLen; omega) (by omega) (by simp; omega) (w.heap.size + 2) (by simp) ?_; intro gg cap1 w6 hown1 hgrow hat hlt1)
  go_ret
  have BW : ∀ o1 o2, Below w.heap.size w ((w.alloc o1).alloc o2) := fun o1 o2 => (Below.new1 o1).alloc (by simp) o2
  obtain ⟨q1, q2⟩ := (zy HL).grow (BW _ _) (s := (k, R, n)) (zy HR) (zy HY) hl40 (zy HS) hown1 hgrow
  refine ⟨.slice (some ⟨gg, 0, none⟩) (l.length + 1) cap1, rfl, q1, gb_then (BW _ _) hgrow, ?_, q2⟩
  intro g hg
  simp only [Value.ownBlock, Option.some.injEq] at hg
  subst hg
  rcases hat with e | e
  ·exact .inl e
  ·exact .inr (by omega)
theorem SqC.at {D : Nat → Prop} {w : World} : ∀ (A : List (List SY)) (cs : List Value) (k : Nat), SqC D w A cs → k < A.length → ∃ c0 l, cs[k]? = some c0 ∧ SymsV D w c0 l ∧ A.drop k = l :: A.drop (k + 1) := by
 intro A
 induction A with
 | nil => intro cs k _ hk; simp at hk
 | cons l A ih =>
  intro cs k h hk
  obtain ⟨c0, cs', rfl, hs, ht⟩ := h
  cases k with
  | zero => exact ⟨c0, l, rfl, hs, rfl⟩
  | succ k =>
   obtain ⟨c1, l1, h1, h2, h3⟩ := ih cs' k ht (by simp at hk; omega)
   exact ⟨c1, l1, by simpa using h1, h2, by simpa using h3⟩
theorem SqC.len {D : Nat → Prop} {w : World} : ∀ (A : List (List SY)) (cs : List Value), SqC D w A cs → cs.length = A.length := by
 intro A
 induction A with
 | nil => intro cs h; have : cs = [] := h; subst this; rfl
 | cons l A ih =>
  intro cs h
  obtain ⟨c0, cs', rfl, hs, ht⟩ := h
  simp [ih _ ht]
theorem AltV.at {D : Nat → Prop} {w : World} {a : Option Addr} {c : Nat} {A : List (List SY)} (h : AltV D w (.slice a A.length c) A) (k : Nat) (hk : k < A.length) : ∃ g off x cc l, a = some ⟨g, off, none⟩ ∧ g < w.heap.size ∧ w.cell? ⟨g, off + k, none⟩ = some (.slice x l.length cc) ∧ A.drop k = l :: A.drop (k + 1) ∧ SymsV D w (.slice x l.length cc) l := by
 obtain ⟨a', c', cs, e, hr, hs⟩ := h
 injection e with e1 e2 e3
 subst e1; subst e3
 obtain ⟨c0, l, h1, h2, h3⟩ := SqC.at A cs k hs hk
 obtain ⟨g, off, ha, hd, hc⟩ := hr.cell h1
 obtain ⟨x, cc, cs', rfl, h4, h5⟩ := id h2
 exact ⟨g, off, x, cc, l, ha, zY hc, hc, h3, h2⟩
theorem AltV.form {D : Nat → Prop} {w : World} {v : Value} {A : List (List SY)} (h : AltV D w v A) : ∃ a c, v = .slice a A.length c ∧ A.length ≤ c ∧ c ≤ maxLen := by
 obtain ⟨a, c, cs, e, hr, hs⟩ := h
 exact ⟨a, c, e, hr.1, hr.2.1⟩
def ixL : List (List SY) → Nat → Int
 | [], _ => -1
 | l :: A, i => if 40 < l.length then (i : Int) else ixL A (i + 1)
theorem ixL_any : ∀ (A : List (List SY)) (i : Nat), decide ((0 : Int) ≤ ixL A i) = A.any longB := by
 intro A
 induction A with
 | nil => intro i; rfl
 | cons l A ih =>
  intro i
  unfold ixL
  simp only [List.any_cons]
  by_cases h : 40 < l.length
  ·rw [if_pos h]
   simp [longB, h]
  ·rw [if_neg h, ih (i + 1)]
   simp [longB, h]
theorem ixFunc_l {D : Nat → Prop} (a : Option Addr) (c : Nat) (A : List (List SY)) (w : World) (h : AltV D w (.slice a A.length c) A) (hl : A.length ≤ 1000000) :
  Calls Tryz.prog 181 #[.slice a A.length c, .func (.func 127) #[] #[]] w fun e w' => e = .returned (.int .i64 (ixL A 0)) ∧ w' = w := by
 have hc : A.length ≤ c ∧ c ≤ maxLen := by obtain ⟨a', c', e, h1, h2⟩ := h.form; injection e with e1 e2 e3; subst e3; exact ⟨h1, h2⟩
 obtain ⟨hc1, hc2⟩ := hc
 unfold maxLen at hc2
 have HV := zx h
 have CT := zx (fun x n cc W => tooLong_l x n cc W)
 clear h
 generalize hn : A.length = n at *
 have HN := zx hn
 clear hn
 go_enter Tryz.func181, Tryz.ntmps181
 go_wp2_with fail
 go_loopw [8] (fun i wr => ∃ k : Nat, k ≤ n ∧ i = .int .i64 (k : Int) ∧ Hid (ixL A 0 = ixL (A.drop k) k) ∧ wr = w) (fun i _ => n - (intOf i).toNat)
 case atStart => exact ⟨0, Nat.zero_le _, rfl, rfl, rfl⟩
 case round =>
  obtain ⟨k, hk, rfl, hA, hw⟩ := hrel
  subst hw
  by_cases hlt : k < n
  ·have HV1 := zy HV
   rw [← zy HN] at HV1
   obtain ⟨g, off, x, cc, l, rfl, hg, hcell, hd, -⟩ := HV1.at k (by rw [zy HN]; exact hlt)
   clear HV1
   by_cases h40 : 40 < l.length
   ·have hb : decide ((40 : Int) < (l.length : Int)) = true := decide_eq_true (by omega)
    have FIN : Hid (ixL A 0 = (k : Int)) := by show _ = _; rw [zy hA, hd]; unfold ixL; rw [if_pos h40]
    clear hd h40 hA
    go_wp2_with fail
    refine (zy CT _ _ _ _).mono ?_
    rintro e w1 ⟨rfl, hw1⟩
    subst hw1
    clear CT
    rw [hb]
    go_wp2_with fail
    go_ret
    exact ⟨ret_int (zy FIN).symm, rfl⟩
   ·have hb : decide ((40 : Int) < (l.length : Int)) = false := decide_eq_false (by omega)
    have NXT : Hid (ixL A 0 = ixL (A.drop (k + 1)) (k + 1)) := by show _ = _; rw [zy hA, hd]; conv => lhs; unfold ixL; rw [if_neg h40]
    clear hd h40 hA
    go_wp2_with fail
    refine (zy CT _ _ _ _).mono ?_
    rintro e w1 ⟨rfl, hw1⟩
    subst hw1
    rw [hb]
    go_wp2_with fail
    go_roundw
    case rel => exact ⟨k + 1, by omega, by simp, NXT, trivial⟩
    case measure => simp only [intOf]; omega
  ·obtain rfl : k = n := by omega
   have FIN : Hid (ixL A 0 = -1) := by
    show _ = _
    rw [zy hA, List.drop_eq_nil_of_le (by rw [zy HN]; exact Nat.le_refl _)]
    rfl
   go_wp2_with fail
   go_ret
   exact ⟨ret_int (zy FIN).symm, rfl⟩
theorem contF_l {D : Nat → Prop} (a : Option Addr) (c : Nat) (A : List (List SY)) (w : World) (h : AltV D w (.slice a A.length c) A) (hl : A.length ≤ 1000000) :
  Calls Tryz.prog 143 #[.slice a A.length c, .func (.func 127) #[] #[]] w fun e w' => e = .returned (.bool (A.any longB)) ∧ w' = w := by
 have C := zx (ixFunc_l a c A w h hl)
 rw [← ixL_any A 0]
 clear h
 generalize ixL A 0 = r at *
 generalize A.length = n at *
 go_enter Tryz.func143, Tryz.ntmps143
 go_wp2_with fail
 refine (zy C).mono ?_
 rintro e w1 ⟨rfl, hw1⟩
 subst hw1
 clear C
 go_wp2_with fail
 go_ret
 exact ⟨rfl, rfl⟩
theorem ffits_l {D : Nat → Prop} (v : Value) (A : List (List SY)) (w : World) (h : AltV D w v A) :
  Calls Tryz.prog 95 #[v] w fun e w' => e = .returned (.bool (YK A)) ∧ w' = w := by
 obtain ⟨a, c, rfl, -, -⟩ := h.form
 have C := zx (fun h8 : A.length ≤ 8 => contF_l a c A w h (by omega))
 unfold YK
 clear h
 generalize A.any longB = r at *
 generalize A.length = n at *
 by_cases h1 : 1 ≤ n
 ·by_cases h8 : n ≤ 8
  ·have b1 : decide ((1 : Int) ≤ (n : Int)) = true := decide_eq_true (by omega)
   have b8 : decide ((n : Int) ≤ 8) = true := decide_eq_true (by omega)
   have C := zx (zy C h8)
   rw [decide_eq_true h1, decide_eq_true h8]
   go_enter Tryz.func95, Tryz.ntmps95
   go_wp2_with fail
   refine (zy C).mono ?_
   rintro e w1 ⟨rfl, hw1⟩
   subst hw1
   clear C
   go_wp2_with fail
   go_ret
   exact ⟨by simp, rfl⟩
  ·have b1 : decide ((1 : Int) ≤ (n : Int)) = true := decide_eq_true (by omega)
   have b8 : decide ((n : Int) ≤ 8) = false := decide_eq_false (by omega)
   rw [decide_eq_true h1, decide_eq_false h8]
   clear C
   go_enter Tryz.func95, Tryz.ntmps95
   go_wp2_with fail
   go_ret
   exact ⟨rfl, rfl⟩
 ·have b1 : decide ((1 : Int) ≤ (n : Int)) = false := decide_eq_false (by omega)
  rw [decide_eq_false h1]
  clear C
  go_enter Tryz.func95, Tryz.ntmps95
  go_wp2_with fail
  go_ret
  exact ⟨rfl, rfl⟩
theorem own_set {w : World} {B : Nat} {t : TypeId} {sz : Nat} {v : Value} {n : Nat} {cs : List Value} (h : w.ownsRow B t sz v n cs) {g : Nat} (hg : v.ownBlock = some g) {j : Nat} (hj : j < cs.length) (u : Value) : (w.setCell ⟨g, j, none⟩ u).ownsRow B t sz v n (cs.set j u) := by
 refine ⟨by rw [List.length_set]; exact h.1, ?_⟩
 rcases h.2 with ⟨rfl, _⟩ | ⟨g', cap, cur, rfl, hb, hc, hn, hm, hs, ht⟩
 ·simp [Value.ownBlock] at hg
 ·simp [Value.ownBlock] at hg
  subst hg
  have := heap_setCell_same w g' j _ _ u hc
  refine .inr ⟨g', cap, cur.setIfInBounds j u, rfl, hb, this, hn, hm, by simp [hs], ?_⟩
  rw [← ht]
  simp [List.take_set]
theorem Yo {w : World} {B : Nat} {t : TypeId} {sz : Nat} {v : Value} {n : Nat} {cs : List Value} (h : w.ownsRow B t sz v n cs) {j : Nat} {u : Value} (hj : cs[j]? = some u) : ∃ g, v.ownBlock = some g ∧ w.cell? ⟨g, j, none⟩ = some u ∧ w.frozen? ⟨g, j, none⟩ = false := by
 rcases h.2 with ⟨rfl, h0⟩ | ⟨g', cap, cur, rfl, hb, hc, hn, hm, hs, ht⟩
 ·have : cs = [] := List.eq_nil_of_length_eq_zero (by rw [h.1, h0]; simp)
  rw [this] at hj; simp at hj
 ·refine ⟨g', rfl, ?_, by simp [World.frozen?, hc]⟩
  have hjl : j < cs.length := (List.getElem?_eq_some_iff.1 hj).1
  rw [← ht, List.getElem?_take_of_lt (by rw [h.1] at hjl; omega)] at hj
  simp only [World.cell?, hc]
  simpa using hj
theorem PrC.at {D : Nat → Prop} {w : World} : ∀ (l : List PRD) (cs : List Value) (n : Nat), PrC D w l cs → n < l.length → ∃ c0, cs[3 * n]? = some c0 := by
 intro l cs n h hn
 have := PrC.len l cs h
 exact ⟨cs[3 * n]'(by omega), List.getElem?_eq_getElem (by omega)⟩
theorem fin_yes {s : Mk} {n : Nat} {q : Int} {A : List (List SY)} (h : YK A = true) : s.fin n q A = ⟨setA s.made n A, s.left, s.pl, s.why⟩ := by unfold Mk.fin; rw [if_pos h]
theorem fin_no {s : Mk} {n : Nat} {q : Int} {A : List (List SY)} (h : YK A = false) : s.fin n q A = ⟨setA (s.stop q 7).made n A, (s.stop q 7).left, (s.stop q 7).pl, (s.stop q 7).why⟩ := by unfold Mk.fin; rw [h]; rfl
theorem MakV.put {D : Nat → Prop} {w : World} {B b m : Nat} {ns : List (List Int)} {d : Int} {v : Value} {s : Mk} (h : MakV D w B b m ns d v s) {n g : Nat} (hn : n < s.made.length) (hg : v.ownBlock = some g) {av : Value} {A : List (List SY)} (ha : AltV D w av A) :
  MakV D (w.setCell ⟨g, 3 * n, none⟩ av) B b m ns d v ⟨setA s.made n A, s.left, s.pl, s.why⟩ ∧ Fl B b none w (w.setCell ⟨g, 3 * n, none⟩ av) := by
 have hgb := h.made_ne g hg
 obtain ⟨hBg, gc, gf, hgc⟩ := h.made.block g hg
 have fl : Fl B b none w (w.setCell ⟨g, 3 * n, none⟩ av) := by
  refine ⟨rfl, rfl, rfl, by simp, fun k h1 h2 => Below.heap_setCell w ⟨g, 3 * n, none⟩ av k (by simp only; omega), fun k o h1 h2 _ h4 => zj h1 (fun c => ?_) av⟩
  subst c
  rw [hgc] at h1; injection h1 with h1; exact h4 _ _ h1.symm
 have kp : Kp D D w (w.setCell ⟨g, 3 * n, none⟩ av) := fl.kp h.cells (Zk w) (no_d w)
 obtain ⟨h1, h2, h3, h4, h5, ⟨h6, cs, own, hp⟩, h7⟩ := h
 have hlen := PrC.len _ _ hp
 refine ⟨⟨h1, h2, h3, h4, zj h5 (Ne.symm hgb) _, ⟨by rw [setA_len]; exact h6, cs.set (3 * n) av, by rw [setA_len]; exact own_set own hg (by omega) av, PrC.set (ha.kp kp) _ _ _ hn (PrC.kp kp _ _ hp)⟩, h7.keep fun o ho hno => ?_⟩, fl⟩
 refine fl.block m o ho (fun c => ?_) (by simp) (fun cs' fr => hno _ _ _)
 subst c; rw [h5] at ho; injection ho with ho; exact hno _ _ _ ho.symm
theorem stop_made (s : Mk) (q y : Int) : (s.stop q y).made = s.made := by unfold Mk.stop; split <;> rfl
theorem ffin_l {D : Nat → Prop} {w : World} {B b m : Nat} {ns : List (List Int)} {d : Int} {v : Value} {s : Mk} (h : MakV D w B b m ns d v s) (n : Nat) (hn : n < s.made.length) (k : Int) (S : ByteArray) (a : Option Addr) (n1 c : Nat) (a' : Option Addr) (n' c' : Nat) (q : Int) (av : Value) (A : List (List SY)) (ha : AltV D w av A) (hl : A.length ≤ 1000000) :
  Calls Tryz.prog 83 #[.pointer (some ⟨b, 0, none⟩), .int .i64 (n : Int), .agg #[.int .i64 k, .string S, .slice a n1 c, .slice a' n' c', .int .i64 q], av] w fun e w' => e = .returned (.tuple #[]) ∧ MakV D w' B b m ns d v (s.fin n q A) ∧ Fl B b none w w' := by
 have B1 : ∀ o, Below w.heap.size w (w.alloc o) := fun o => Below.new1 o
 have CF := zx (fun o => ffits_l av A (w.alloc o) (ha.kp (Kp.of (B1 o))))
 have CS := zx (fun o => YJ (h.later (B1 o)) q 7)
 have HM := zx h
 have HA := zx ha
 have h60 := h.made.1
 have hlt := h.lt
 obtain ⟨va, vc, rfl⟩ := h.made.form
 have hvm : s.made.length ≤ vc ∧ vc ≤ maxLen := by
  obtain ⟨-, cs, own, -⟩ := h.made
  rcases own.2 with ⟨e, h0⟩ | ⟨g, cap, cur, e, hb, hg, h1, h2, -⟩
  ·omega
  ·injection e with e1 e2 e3; subst e3; exact ⟨h1, h2⟩
 obtain ⟨hv1, hv2⟩ := hvm
 unfold maxLen at hv2
 obtain ⟨g, hg⟩ : ∃ g, va = some ⟨g, 0, none⟩ := by
  obtain ⟨-, cs, own, -⟩ := h.made
  rcases own.2 with ⟨e, h0⟩ | ⟨g, cap, cur, e, -⟩
  ·omega
  ·injection e with e1 e2 e3; exact ⟨g, e1⟩
 subst hg
 obtain ⟨av1, av2, rfl, -, -⟩ := ha.form
 have C0 : ∀ o, (w.alloc o).cell? ⟨b, 0, none⟩ = some (.slice (some ⟨g, 0, none⟩) s.made.length vc) := fun o => (yK (h.later (B1 o)).cells).1
 have CG : ∀ o, ∃ u, (w.alloc o).cell? ⟨g, 3 * n, none⟩ = some u ∧ (w.alloc o).frozen? ⟨g, 3 * n, none⟩ = false := fun o => by
  obtain ⟨-, cs, own, hp⟩ := (h.later (B1 o)).made
  obtain ⟨u, hu⟩ := PrC.at _ _ n hp hn
  obtain ⟨g', h1, h2, h3⟩ := Yo own hu
  simp only [Value.ownBlock, Option.some.injEq] at h1
  subst h1
  exact ⟨u, h2, h3⟩
 clear h ha
 cases hf : YK A with
 | true =>
  have FIN : Hid (s.fin n q A = ⟨setA s.made n A, s.left, s.pl, s.why⟩) := fin_yes hf
  rw [hf] at CF
  clear hf CS
  obtain ⟨u0, cg, zg⟩ := CG (.cells #[.int .i64 k, .string S, .slice a n1 c, .slice a' n' c', .int .i64 q] 40)
  clear CG
  have n3 : n * 3 = 3 * n := by omega
  go_enter Tryz.func83, Tryz.ntmps83
  go_wp2_with fail
  refine (zy CF _).mono ?_
  rintro e w1 ⟨rfl, hw1⟩
  subst hw1
  clear CF
  go_wp2_with fail
  go_end0
  have hm := (zy HM).later (B1 (.cells #[.int .i64 k, .string S, .slice a n1 c, .slice a' n' c', .int .i64 q] 40))
  obtain ⟨p1, p2⟩ := hm.put hn (g := g) rfl ((zy HA).kp (Kp.of (B1 _)))
  rw [zy FIN]
  exact ⟨rfl, p1, (Fl.of (B1 _)).then p2 (fun g e => by cases e)⟩
 | false =>
  have FIN : Hid (s.fin n q A = ⟨setA (s.stop q 7).made n A, (s.stop q 7).left, (s.stop q 7).pl, (s.stop q 7).why⟩) := fin_no hf
  rw [hf] at CF
  have hn2 : n < (s.stop q 7).made.length := by rw [stop_made]; exact hn
  have hml : (s.stop q 7).made.length = s.made.length := by rw [stop_made]
  clear hf CG C0
  have n3 : n * 3 = 3 * n := by omega
  generalize hs2 : s.stop q 7 = s2 at *
  clear hs2
  go_enter Tryz.func83, Tryz.ntmps83
  go_wp2_with fail
  refine (zy CF _).mono ?_
  rintro e w1 ⟨rfl, hw1⟩
  subst hw1
  clear CF
  go_wp2_with fail
  refine (zy CS _).mono ?_
  rintro e w2 ⟨rfl, hm2, f2⟩
  clear CS
  have C0 : w2.cell? ⟨b, 0, none⟩ = some (.slice (some ⟨g, 0, none⟩) s.made.length vc) := (yK hm2.cells).1
  have hlt2 := hm2.lt
  obtain ⟨u0, cg, zg⟩ : ∃ u, w2.cell? ⟨g, 3 * n, none⟩ = some u ∧ w2.frozen? ⟨g, 3 * n, none⟩ = false := by
   obtain ⟨-, cs, own, hp⟩ := hm2.made
   obtain ⟨u, hu⟩ := PrC.at _ _ n hp hn2
   obtain ⟨g', h1, h2, h3⟩ := Yo own hu
   simp only [Value.ownBlock, Option.some.injEq] at h1
   subst h1
   exact ⟨u, h2, h3⟩
  have HM2 := zx hm2
  have HF2 := zx f2
  have HN2 := zx hn2
  have HA2 : Hid (AltV D w2 (.slice av1 A.length av2) A) := by
   have k1 := (zy HM).later (B1 (.cells #[.int .i64 k, .string S, .slice a n1 c, .slice a' n' c', .int .i64 q] 40))
   exact ((zy HA).kp (Kp.of (B1 _))).kp (f2.kp k1.cells (Zk _) (no_d _))
  clear hm2 f2 hn2 hml
  go_wp2_with fail
  go_end0
  obtain ⟨p1, p2⟩ := (zy HM2).put (zy HN2) (g := g) rfl (zy HA2)
  rw [zy FIN]
  exact ⟨rfl, p1, ((Fl.of (B1 _)).then (zy HF2) (fun g e => by cases e)).then p2 (fun g e => by cases e)⟩
theorem rs_cells {w : World} {g off len cap : Nat} {l : List (Int × Int)} (h : Rs w (some ⟨g, off, none⟩) len cap l) : ∀ (j : Nat) (u : Value), (yq l)[j]? = some u → w.cell? ((⟨g, off, none⟩ : Addr).add j) = some u := by
 intro j u hu
 have hj : j < l.length * 2 := by rw [← yi]; exact (List.getElem?_eq_some_iff.1 hu).1
 rw [Addr.add_lit]
 obtain ⟨i, hi⟩ : ∃ i, j = i * 2 ∨ j = i * 2 + 1 := ⟨j / 2, by omega⟩
 obtain ⟨g', off', e, h1, h2⟩ := h.hcell i (by have := h.hlen; omega)
 injection e with e
 injection e with e1 e2
 subst e1; subst e2
 obtain ⟨k1, k2⟩ := cellsL_at l i (by omega)
 rcases hi with rfl | rfl
 ·rw [k1] at hu
  injection hu with hu
  rw [← hu]; exact h1
 ·rw [k2] at hu
  injection hu with hu
  rw [← hu]; exact h2
theorem one_cells (l : List (Int × Int)) : ∀ u ∈ yq l, u.oneCell' = true := by
 intro u hu
 unfold yq at hu
 rw [List.mem_flatMap] at hu
 obtain ⟨r, _, hr⟩ := hu
 simp at hr
 rcases hr with rfl | rfl <;> rfl
theorem cloneR_l (a : Option Addr) (c : Nat) (R : List (Int × Int)) (w : World) (h : Rs w a R.length c R) (hs : R.length ≤ 1000000) :
  Calls Tryz.prog 128 #[.slice a R.length c] w fun e w' => ∃ a' c', e = .returned (.slice a' R.length c') ∧ Rs w' a' R.length c' R ∧ Ty w' a' ∧ Below w.heap.size w w' := by
 cases a with
 | none =>
  have hR : R = [] := by
   cases R with
   | nil => rfl
   | cons r R =>
    obtain ⟨b, off, e, -⟩ := h.hcell 0 (by simp)
    cases e
  subst hR
  clear h
  have heq : ∀ W, (binOp .eql 37 (.slice none 0 c) (.slice none 0 0)).run Tryz.prog W = .ok (.bool true) W := fun W => by kernel_rfl
  go_enter Tryz.func128, Tryz.ntmps128
  go_wp2_with fail
  go_ret
  exact ⟨none, 0, rfl, Rs.nil w, Ty.nil w, Below.refl _ _⟩
 | some ad =>
  obtain ⟨i0, hi0, hz0, hz1, hz2⟩ := info_parts infoRg
  have HN : ∀ o, ∀ (j : Nat) (u : Value), (yq R)[j]? = some u → (w.alloc o).cell? (ad.add j) = some u := by
   intro o j u hu
   cases R with
   | nil => simp [yq] at hu
   | cons r R =>
    obtain ⟨b, off, e, -⟩ := h.hcell 0 (by simp)
    injection e with e
    subst e
    exact rs_cells (h.later (Below.new1 o) (Nat.le_refl _)) j u hu
  have heq : ∀ W, (binOp .eql 37 (.slice (some ad) R.length c) (.slice none 0 0)).run Tryz.prog W = .ok (.bool false) W := fun W => by kernel_rfl
  have HF := zx h.hfit
  have hcl := yi R
  clear h
  have HO : ∀ w : World, (w.alloc (.cells #[] 169)).ownsRow w.heap.size 169 2 (.slice (some ⟨w.heap.size, 0, none⟩) 0 0) 0 [] := fun w => World.ownsRow_made w #[] 0 (Nat.le_refl _) (Nat.zero_le _) rfl
  go_enter Tryz.func128, Tryz.ntmps128
  go_wp2_with (at_builtin; refine wpList_append_own _ rfl _ _ 37 rfl w.heap.size 169 i0 _ 2 16 Tryz.underlying37 hi0 hz0 hz1 hz2 rfl (by omega) _ _ _ rfl (HO w) ad R.length c (yq R) rfl hcl (HN _) (one_cells R) (by unfold maxLen; omega) (by omega) (by simp) ?_; intro v' w6 hown1 hgrow hnil)
  go_ret
  rw [Nat.zero_add, List.nil_append] at hown1
  have ow : Ow w6 w.heap.size v' R := hown1
  obtain ⟨a', c', rfl, hr⟩ := ow.rs (zy HF)
  refine ⟨a', c', rfl, hr, ?_, ?_⟩
  ·intro b off e
   subst e
   obtain ⟨cs', hc⟩ := je hown1 b rfl
   exact ⟨cs', _, hc⟩
  ·have hg2 : (w.alloc (.cells #[] 169)).grownBy w6 (some w.heap.size) := hgrow
   exact (Below.new1 _).grown hg2 (by simp) (fun k hk => by injection hk; omega)
def LfR (D : Nat → Prop) (B b m : Nat) (ns : List (List Int)) (d : Int) (v : Value) (w : World) (r : Mk × List SY) (e : Ending) (w' : World) : Prop :=
 ∃ v', e = .returned v' ∧ LV w' B v' r.2 ∧ Mak (fun k => D k ∧ some k ≠ v'.ownBlock) w' B b m ns d r.1 ∧ Fl B b v.ownBlock w w' ∧ Nx w v v'
theorem XX {D : Nat → Prop} {w W X : World} {B b m : Nat} {ns : List (List Int)} {d : Int} {v v' : Value} {mv : Value} {s : Mk} {l : List SY} (hL : LV w B v l) (hb : ∃ cs fr, w.heap[b]? = some (.cells cs 84 fr)) (h : MakV (fun k => D k ∧ some k ≠ v.ownBlock) W B b m ns d mv s) (fW : Fl B b none w W) {l' : List SY} (lv : LV X B v' l') (g : W.grownBy X v.ownBlock) (nx : Nx W v v') :
  LfR D B b m ns d v w (s, l') (.returned v') X := by
 obtain ⟨bc, bf, hb⟩ := hb
 have blk : ∀ k, v.ownBlock = some k → ∃ cs fr, W.heap[k]? = some (.cells cs 64 fr) := fun k hk => by
  obtain ⟨cs, fr, hc⟩ := hL.block k hk
  exact ⟨cs, fr, fW.block k _ hc (yz hc hb (by decide)) (by simp) (fun c2 f2 e => by injection e with _ e; exact absurd e (by decide))⟩
 have fX : Fl B b v.ownBlock W X := Fl.grown g (fun k hk => (hL.lt k hk).1)
 have hbv : some b ≠ v.ownBlock := fun e => by
  obtain ⟨cs, fr, hc⟩ := hL.block b e.symm
  exact yz hc hb (by decide) rfl
 refine ⟨v', rfl, lv, ⟨mv, h.re (x := v.ownBlock) fX blk ?_ ?_ ?_ rfl h.d0 h.l0⟩, fW.none.then fX (fun g e => .inl e), ?_⟩
 ·intro k hk hd
  refine ⟨hd.2, hd.1, fun e => ?_⟩
  rcases nx k e.symm with c | c
  ·exact hd.2 c.symm
  ·omega
 ·rw [g.block b h.lt hbv]; exact h.cells
 ·intro k o hk ho
  rw [g.block k (Array.getElem?_eq_some_iff.1 ho).1 (fun e => ?_)]
  ·exact ho
  ·obtain ⟨-, c1, f1, h1⟩ := h.made.block k hk
   obtain ⟨c2, f2, h2⟩ := blk k e.symm
   exact yz h1 h2 (by decide) rfl
 ·intro k hk
  rcases nx k hk with c | c
  ·exact .inl c
  ·exact .inr (Nat.le_trans fW.size c)
def smP : Nat → PT → Prop
 | 0, _ => False
 | n + 1, p => (txP p).length ≤ 1000000 ∧ (rgP p).length ≤ 1000000 ∧ (psP p).length ≤ 1000000 ∧ ∀ x ∈ psP p, smP n x
theorem call_yes {ns : List (List Int)} {s : Mk} {l : List SY} {p : PT} {n : Nat} (h : idx (txP p) ns 0 = some n) : callS ns s l p = (s, jW l (2, [], (n : Int))) := by unfold callS; rw [h]
theorem call_no {ns : List (List Int)} {s : Mk} {l : List SY} {p : PT} (h : idx (txP p) ns 0 = none) : callS ns s l p = (s.stop (atP p) 5, jW l (2, [], 0)) := by unfold callS; rw [h]
theorem MakV.blk {D : Nat → Prop} {w : World} {B b m : Nat} {ns : List (List Int)} {d : Int} {v : Value} {s : Mk} (h : MakV D w B b m ns d v s) : ∃ cs fr, w.heap[b]? = some (.cells cs 84 fr) := ⟨_, _, h.cells⟩
theorem fcall_l {D : Nat → Prop} {w : World} {B b m : Nat} {ns : List (List Int)} {d : Int} {s : Mk} {v : Value} {l : List SY} (n : Nat) (pv : Value) (p : PT) (hB : B ≤ w.heap.size) (h : Mak (fun k => D k ∧ some k ≠ v.ownBlock) w B b m ns d s) (hL : LV w B v l) (hp : PartB B (n + 1) w pv p) :
  Calls Tryz.prog 73 #[.pointer (some ⟨b, 0, none⟩), v, pv] w (LfR D B b m ns d v w (callS ns s l p)) := by
 obtain ⟨mv, hm⟩ := h
 obtain ⟨k, t, R, L, q, aR, cR, aL, cL, cs, rfl, rfl, f1, ht, f3, -⟩ := hp
 have B1 : ∀ o, Below w.heap.size w (w.alloc o) := fun o => Below.new1 o
 have hlt := hm.lt
 have C1 : ∀ o, (w.alloc o).cell? ⟨b, 1, none⟩ = some (.map (some m)) := fun o => (yK (hm.later (B1 o)).cells).2.1
 have LK : ∀ o j, (Instr.lookup 79 (.map (some m)) (.string (strOfNums t)) true).run Tryz.prog ((w.alloc o).drewN j) = .ok (.tuple #[.int .i64 (((idx t ns 0).getD 0 : Nat) : Int), .bool (idx t ns 0).isSome]) ((w.alloc o).drewN j) := fun o j => Nm.get (((hm.later (B1 o)).later (zk (k := j))).names) ht
 have HM := zx hm
 have HL := zx hL
 obtain ⟨la, lc, rfl⟩ := hL.form
 have MB := zx hm.blk
 cases hi : idx t ns 0 with
 | some i =>
  have FIN : Hid (callS ns s l (mk k t R L q) = (s, jW l (2, [], (i : Int)))) := call_yes hi
  rw [hi] at LK
  simp only [Option.getD_some, Option.isSome_some] at LK
  have CP := zx (fun W (bW : Below w.heap.size w W) => fput_l (hL.later bW) (by have := bW.size; omega) 2 (i : Int) [] none 0 (Rs.nil W) (Ty.nil W))
  simp only [List.length_nil] at CP
  clear hm hL hi
  generalize strOfNums t = S at *
  go_enter Tryz.func73, Tryz.ntmps73
  go_wp2_with fail
  go_quiet (fail)
  go_wp2_with fail
  refine (zy CP _ ?_).mono ?_
  ·exact zw (B1 _) zk
  rintro e w2 ⟨v', rfl, lv, gr, nx, kr⟩
  clear CP
  obtain ⟨xa, xc, rfl⟩ := lv.form
  go_wp2_with fail
  go_ret
  rw [zy FIN]
  exact XX (zy HL) (zy MB) ((zy HM).later (zw (B1 _) zk)) (Fl.of (zw (B1 _) zk)) lv gr nx
 | none =>
  have FIN : Hid (callS ns s l (mk k t R L q) = (s.stop q 5, jW l (2, [], 0))) := call_no hi
  rw [hi] at LK
  simp only [Option.getD_none, Option.isSome_none] at LK
  have CP := zx (fun W (hW : LV W B (.slice la l.length lc) l) (hb : B ≤ W.heap.size) => fput_l hW hb 2 0 [] none 0 (Rs.nil W) (Ty.nil W))
  simp only [List.length_nil] at CP
  have CS := zx (fun W (bW : Below w.heap.size w W) => YJ (hm.later bW) q 5)
  clear hm hL hi
  generalize strOfNums t = S at *
  go_enter Tryz.func73, Tryz.ntmps73
  go_wp2_with fail
  go_quiet (fail)
  go_wp2_with fail
  refine (zy CS _ ?_).mono ?_
  ·exact zw (B1 _) zk
  rintro e w2 ⟨rfl, hm2, f2⟩
  clear CS
  have FW : Fl B b none w w2 := (Fl.of (zw (B1 _) zk)).then f2 (fun g e => by cases e)
  have s2 := FW.size
  have HL2 : LV w2 B (.slice la l.length lc) l := by
   obtain ⟨bc, bf, hb⟩ := zy MB
   exact (zy HL).fl FW hb (Zk _) (fun g _ e => by cases e)
  have CP2 := zx (zy CP w2 HL2 (by omega))
  have HM2 := zx hm2
  have HFW := zx FW
  clear CP hm2 f2 FW HL2
  go_wp2_with fail
  refine (zy CP2).mono ?_
  rintro e w3 ⟨v', rfl, lv, gr, nx, kr⟩
  clear CP2
  obtain ⟨xa, xc, rfl⟩ := lv.form
  go_wp2_with fail
  go_ret
  rw [zy FIN]
  exact XX (zy HL) (zy MB) (zy HM2) (zy HFW) lv gr nx
def InvL (D : Nat → Prop) (B b m : Nat) (ns : List (List Int)) (d : Int) (v : Value) (w : World) (s : Mk) (lv : Value) (l : List SY) (wr : World) : Prop :=
 LV wr B lv l ∧ Mak (fun k => D k ∧ some k ≠ lv.ownBlock) wr B b m ns d s ∧ Fl B b v.ownBlock w wr ∧ Nx w v lv
theorem InvL.start {D : Nat → Prop} {B b m : Nat} {ns : List (List Int)} {d : Int} {v : Value} {w W : World} {s : Mk} {l : List SY} {mv : Value} (hL : LV w B v l) (hm : MakV (fun k => D k ∧ some k ≠ v.ownBlock) w B b m ns d mv s) (k : Below w.heap.size w W) : InvL D B b m ns d v w s v l W :=
 ⟨hL.later k, ⟨mv, hm.later k⟩, Fl.of k, Nx.refl _ _⟩
theorem InvL.then {D : Nat → Prop} {B b m : Nat} {ns : List (List Int)} {d : Int} {v lv : Value} {w wr w' : World} {s : Mk} {l : List SY} {r : Mk × List SY} {e : Ending} (h : InvL D B b m ns d v w s lv l wr) (k : LfR D B b m ns d lv wr r e w') : LfR D B b m ns d v w r e w' := by
 obtain ⟨h1, h2, h3, h4⟩ := h
 obtain ⟨v', e1, k1, k2, k3, k4⟩ := k
 refine ⟨v', e1, k1, k2, h3.then k3 (fun g hg => h4 g hg), fun g hg => ?_⟩
 rcases k4 g hg with c | c
 ·exact h4 g c
 ·exact .inr (Nat.le_trans h3.size c)
theorem InvL.on {D : Nat → Prop} {B b m : Nat} {ns : List (List Int)} {d : Int} {v lv v' : Value} {w wr w' : World} {s : Mk} {l : List SY} {r : Mk × List SY} (h : InvL D B b m ns d v w s lv l wr) (k : LfR D B b m ns d lv wr r (.returned v') w') : InvL D B b m ns d v w r.1 v' r.2 w' := by
 obtain ⟨v2, e1, k1, k2, k3, k4⟩ := h.then k
 injection e1 with e1
 subst e1
 exact ⟨k1, k2, k3, k4⟩
theorem InvL.out {D : Nat → Prop} {B b m : Nat} {ns : List (List Int)} {d : Int} {v lv : Value} {w wr : World} {s : Mk} {l : List SY} (h : InvL D B b m ns d v w s lv l wr) : LfR D B b m ns d v w (s, l) (.returned lv) wr := ⟨lv, rfl, h⟩
theorem InvL.more {D : Nat → Prop} {B b m : Nat} {ns : List (List Int)} {d : Int} {v lv : Value} {w wr X : World} {s : Mk} {l : List SY} (h : InvL D B b m ns d v w s lv l wr) (k : Below wr.heap.size wr X) : InvL D B b m ns d v w s lv l X := by
 obtain ⟨h1, ⟨mv, h2⟩, h3, h4⟩ := h
 exact ⟨h1.later k, ⟨mv, h2.later k⟩, h3.then (Fl.of (x := none) k) (fun g e => by cases e), h4⟩
theorem bs_blk {w X : World} {g off len cap : Nat} {l : List Int} (h : Bs w (some ⟨g, off, none⟩) len cap l) (e : X.heap[g]? = w.heap[g]?) : Bs X (some ⟨g, off, none⟩) len cap l := by
 refine ⟨h.hlen, h.hcap, h.hmax, h.hbytes, fun i hi => ?_⟩
 obtain ⟨b, o, ha, hc⟩ := h.hcell i hi
 injection ha with ha
 injection ha with h1 h2
 subst h1; subst h2
 exact ⟨g, off, rfl, by rw [World.cell?_of_block e]; exact hc⟩
theorem text_long {c : Int} {t : List Int} {l : List SY} (h : 40 < l.length) : vY (c :: t) l = l := by unfold vY; rw [if_pos h]
theorem text_more {c : Int} {t : List Int} {l : List SY} (h : ¬ 40 < l.length) : vY (c :: t) l = vY t (jW l (0, [(c, c)], 0)) := by conv => lhs; unfold vY; rw [if_neg h]
theorem ftext_l {D : Nat → Prop} {w : World} {B b m : Nat} {ns : List (List Int)} {d : Int} {s : Mk} {v : Value} {l : List SY} (n : Nat) (pv : Value) (p : PT) (hB : B ≤ w.heap.size) (h : Mak (fun k => D k ∧ some k ≠ v.ownBlock) w B b m ns d s) (hL : LV w B v l) (hp : PartB B (n + 1) w pv p) (hs : (txP p).length ≤ 1000000) :
  Calls Tryz.prog 74 #[.pointer (some ⟨b, 0, none⟩), v, pv] w (LfR D B b m ns d v w (s, vY (txP p) l)) := by
 obtain ⟨mv, hm⟩ := h
 obtain ⟨k, t, R, L, q, aR, cR, aL, cL, cs, rfl, rfl, f1, ht, f3, -⟩ := hp
 simp only [tx_mk] at hs ⊢
 have B1 : ∀ o, Below w.heap.size w (w.alloc o) := fun o => Below.new1 o
 have hlt := hm.lt
 have hst := St.of ht
 have hsz := hst.size
 generalize hS : strOfNums t = S at *
 have kc := fun W => run_bytes_of_string (P := Tryz.prog) W 9 119 5 S Tryz.underlying9 Tryz.underlying119 Tryz.underlying5
 have BC := zx (fun W fr => bs_conv' W hst (by unfold maxLen; omega) fr)
 have INV := zx (fun W (bW : Below w.heap.size w W) => InvL.start hL hm bW)
 have CT := zx (fun x n cc W => tooLong_l x n cc W)
 have MB := zx hm.blk
 have VB := zx hL.block
 have VL := zx hL.lt
 obtain ⟨la, lc, rfl⟩ := hL.form
 have HSZ := zx hsz
 have hsl : S.size ≤ 1000000 := by omega
 clear hm hL hst ht hS hsz
 go_enter Tryz.func74, Tryz.ntmps74
 go_wp2_with fail
 have BX := B1 (.cells #[.int .i64 k, .string S, .slice aR R.length cR, .slice aL L.length cL, .int .i64 q] 40)
 generalize hWb : w.alloc (.cells #[.int .i64 k, .string S, .slice aR R.length cR, .slice aL L.length cL, .int .i64 q] 40) = Wb at *
 have sWb : Wb.heap.size = w.heap.size + 1 := by rw [← hWb]; simp
 have B0 := new_drew' (w := Wb) (.cells (bytesRow S (grownCap Wb S.size 0 5)) 5 ((bytesRow S (grownCap Wb S.size 0 5)).size, (bytesRow S (grownCap Wb S.size 0 5)).size + 1))
 have HB0 := zy BC Wb ((bytesRow S (grownCap Wb S.size 0 5)).size, (bytesRow S (grownCap Wb S.size 0 5)).size + 1)
 have HG0 : ((Wb.alloc (.cells (bytesRow S (grownCap Wb S.size 0 5)) 5 ((bytesRow S (grownCap Wb S.size 0 5)).size, (bytesRow S (grownCap Wb S.size 0 5)).size + 1))).drew).heap[Wb.heap.size]? = some (.cells (bytesRow S (grownCap Wb S.size 0 5)) 5 ((bytesRow S (grownCap Wb S.size 0 5)).size, (bytesRow S (grownCap Wb S.size 0 5)).size + 1)) := heap_alloc_new _ _
 clear BC kc
 generalize hW0 : (Wb.alloc (.cells (bytesRow S (grownCap Wb S.size 0 5)) 5 ((bytesRow S (grownCap Wb S.size 0 5)).size, (bytesRow S (grownCap Wb S.size 0 5)).size + 1))).drew = W0 at *
 clear hW0 hWb
 generalize ((bytesRow S (grownCap Wb S.size 0 5)).size, (bytesRow S (grownCap Wb S.size 0 5)).size + 1) = fr0 at *
 generalize bytesRow S (grownCap Wb S.size 0 5) = row0 at *
 generalize grownCap Wb S.size 0 5 = gc at *
 have hcap := HB0.hcap
 have hmaxc := HB0.hmax
 unfold maxLen at hmaxc
 generalize hgb : Wb.heap.size = gb at *
 have INV0 := zx (zy INV W0 (zw BX (by rw [hgb]; exact B0)))
 have HBS := zx HB0
 have HBG := zx HG0
 clear INV HB0 HG0 B0 BX
 subst sWb
 clear hgb
 generalize hn : S.size = n0 at *
 go_loopw [1, 13] (fun lv i wr => ∃ (j : Nat) (l' : List SY), j ≤ n0 ∧ i = .int .i64 (j : Int) ∧ Hid (vY t l = vY (t.drop j) l') ∧ Hid (InvL D B b m ns d (.slice la l.length lc) w s lv l' wr) ∧ Hid (wr.heap[w.heap.size + 1]? = W0.heap[w.heap.size + 1]?) ∧ w.heap.size ≤ wr.heap.size) (fun _ i _ => n0 - (intOf i).toNat)
 case atStart => exact ⟨0, l, Nat.zero_le _, rfl, rfl, INV0, rfl, (zy INV0).2.2.1.size⟩
 case round =>
  obtain ⟨j, l', hj, rfl, hT, hI, hG, hsw⟩ := hrel
  obtain ⟨xa, xc, rfl⟩ := (zy hI).1.form
  by_cases hlt2 : j < n0
  ·obtain ⟨bb, off, e, hb⟩ := (bs_blk (zy HBS) (zy hG)).open (by omega)
   injection e with e
   injection e with e1 e2
   rw [← e1, ← e2] at hb
   clear e1 e2
   obtain ⟨z, hz, z0, z1, cz⟩ := bat hb j hlt2
   rw [Nat.zero_add] at cz
   have hd : Hid (t.drop j = z :: t.drop (j + 1)) := by
    show _ = _
    have hjl : j < t.length := by rw [← zy HSZ]; exact hlt2
    rw [List.drop_eq_getElem_cons hjl, ← hz]
    simp [List.getD, hjl]
   clear hb hz
   by_cases h40 : 40 < l'.length
   ·have hbb : decide ((40 : Int) < (l'.length : Int)) = true := decide_eq_true (by omega)
    have FIN : Hid (vY t l = l') := by show _ = _; rw [zy hT, zy hd, text_long h40]
    clear h40 hT hd
    go_wp2_with fail
    refine (zy CT _ _ _ _).mono ?_
    rintro e w1 ⟨rfl, hw1⟩
    subst hw1
    clear CT
    rw [hbb]
    go_wp2_with fail
    go_ret
    rw [zy FIN]
    exact (zy hI).out
   ·have hbb : decide ((40 : Int) < (l'.length : Int)) = false := decide_eq_false (by omega)
    have NXT : Hid (vY t l = vY (t.drop (j + 1)) (jW l' (0, [(z, z)], 0))) := by show _ = _; rw [zy hT, zy hd, text_more h40]
    clear h40 hT hd
    have I1 := zx (fun o => (zy hI).more (Below.new1 (w := wr) o))
    have CP := zx (fun W (bW : Below wr.heap.size wr W) (a : Option Addr) (c : Nat) (hr : Rs W a 1 c [(z, z)]) (hy : Ty W a) => fput_l ((zy hI).1.later bW) (by have := bW.size; omega) 0 0 [(z, z)] a c hr hy)
    have RS := zx (fun nn (hnn : nn = wr.heap.size) => Rs.single wr z z (by unfold zW; omega) (by unfold zW; omega) nn hnn)
    unfold boxRg at RS
    simp only [List.length_cons, List.length_nil, Nat.zero_add] at CP
    go_wp2_with fail
    refine (zy CT _ _ _ _).mono ?_
    rintro e w1 ⟨rfl, hw1⟩
    subst hw1
    rw [hbb]
    go_wp2_with fail
    refine (zy CP _ (Below.new1 _) _ _ (zy RS _ rfl) ?_).mono ?_
    ·intro b' off' e
     injection e with e
     injection e with e1 e2
     subst e1
     exact ⟨_, _, heap_alloc_new _ _⟩
    rintro e w2 ⟨v', rfl, lv, gr, nx, kr⟩
    clear CP
    obtain ⟨ya, yc, rfl⟩ := lv.form
    obtain ⟨mv2, hmk⟩ := (zy hI).2.1
    have NI := zx ((zy hI).on (XX (zy hI).1 hmk.blk (hmk.later (Below.new1 _)) (Fl.of (Below.new1 _)) lv gr nx))
    have hlb : w.heap.size + 1 < w1.heap.size := (Array.getElem?_eq_some_iff.1 ((zy hG).trans (zy HBG))).1
    have HG2 : Hid (w2.heap[w.heap.size + 1]? = W0.heap[w.heap.size + 1]?) := by
     show _ = _
     rw [gr.block (w.heap.size + 1) (by simp; omega) (fun e => ?_), (Below.new1 _).block _ hlb]
     ·exact zy hG
     ·obtain ⟨c1, f1, h1⟩ := (zy hI).1.block _ e.symm
      exact yz ((zy hG).trans (zy HBG)) h1 (by decide) rfl
    have s2 := (zy NI).2.2.1.size
    clear lv gr nx kr hmk hI I1 hG
    go_wp2_with fail
    go_roundw
    case rel => exact ⟨j + 1, _, by omega, by simp, NXT, NI, HG2, s2⟩
    case measure => simp [intOf]; omega
  ·obtain rfl : j = n0 := by omega
   have FIN : Hid (vY t l = l') := by
    show _ = _
    rw [zy hT, List.drop_eq_nil_of_le (by rw [← zy HSZ]; exact Nat.le_refl _)]
    rfl
   go_wp2_with fail
   go_ret
   rw [zy FIN]
   exact (zy hI).out
theorem fset_l {D : Nat → Prop} {w : World} {B b m : Nat} {ns : List (List Int)} {d : Int} {s : Mk} {v : Value} {l : List SY} (n : Nat) (pv : Value) (p : PT) (hB : B ≤ w.heap.size) (h : Mak (fun k => D k ∧ some k ≠ v.ownBlock) w B b m ns d s) (hL : LV w B v l) (hp : PartB B (n + 1) w pv p) (hs : (rgP p).length ≤ 1000000) :
  Calls Tryz.prog 75 #[.pointer (some ⟨b, 0, none⟩), v, pv] w (LfR D B b m ns d v w (s, jW l (1, rgP p, 0))) := by
 obtain ⟨mv, hm⟩ := h
 obtain ⟨k, t, R, L, q, aR, cR, aL, cL, cs, rfl, rfl, f1, ht, f3, hR, hY, -⟩ := hp
 simp only [rg_mk] at hs ⊢
 have B1 : ∀ o, Below w.heap.size w (w.alloc o) := fun o => Below.new1 o
 have CC := zx (fun o => cloneR_l aR cR R (w.alloc o) (hR.later (B1 o) (Nat.le_refl _)) hs)
 have CP := zx (fun W (bW : Below w.heap.size w W) (a : Option Addr) (c : Nat) (hr : Rs W a R.length c R) (hy : Ty W a) => fput_l (hL.later bW) (by have := bW.size; omega) 1 0 R a c hr hy)
 have HM := zx hm
 have HL := zx hL
 obtain ⟨la, lc, rfl⟩ := hL.form
 clear hm hL hR hY ht
 generalize strOfNums t = S at *
 generalize hn : R.length = nR at *
 go_enter Tryz.func75, Tryz.ntmps75
 go_wp2_with fail
 refine (zy CC _).mono ?_
 rintro e w1 ⟨a1, c1, rfl, r1, y1, b1⟩
 clear CC
 have CP1 := zx (zy CP w1 (zw (B1 _) b1) a1 c1 r1 y1)
 have BB := zx (zw (B1 _) b1)
 clear CP r1 y1 b1
 go_wp2_with fail
 refine (zy CP1).mono ?_
 rintro e w2 ⟨v', rfl, lv, gr, nx, kr⟩
 clear CP1
 obtain ⟨xa, xc, rfl⟩ := lv.form
 go_wp2_with fail
 go_ret
 exact XX (zy HL) (zy HM).blk ((zy HM).later (zy BB)) (Fl.of (zy BB)) lv gr nx
theorem foct_l {D : Nat → Prop} {w : World} {B b m : Nat} {ns : List (List Int)} {d : Int} {s : Mk} {v : Value} {l : List SY} (n : Nat) (pv : Value) (p : PT) (hB : B ≤ w.heap.size) (h : Mak (fun k => D k ∧ some k ≠ v.ownBlock) w B b m ns d s) (hL : LV w B v l) (hp : PartB B (n + 1) w pv p) (hs : (rgP p).length ≤ 1000000) :
  Calls Tryz.prog 76 #[.pointer (some ⟨b, 0, none⟩), v, pv] w (LfR D B b m ns d v w (s, jW l (0, rgP p, 0))) := by
 obtain ⟨mv, hm⟩ := h
 obtain ⟨k, t, R, L, q, aR, cR, aL, cL, cs, rfl, rfl, f1, ht, f3, hR, hY, -⟩ := hp
 simp only [rg_mk] at hs ⊢
 have B1 : ∀ o, Below w.heap.size w (w.alloc o) := fun o => Below.new1 o
 have CC := zx (fun o => cloneR_l aR cR R (w.alloc o) (hR.later (B1 o) (Nat.le_refl _)) hs)
 have CP := zx (fun W (bW : Below w.heap.size w W) (a : Option Addr) (c : Nat) (hr : Rs W a R.length c R) (hy : Ty W a) => fput_l (hL.later bW) (by have := bW.size; omega) 0 0 R a c hr hy)
 have HM := zx hm
 have HL := zx hL
 obtain ⟨la, lc, rfl⟩ := hL.form
 clear hm hL hR hY ht
 generalize strOfNums t = S at *
 generalize hn : R.length = nR at *
 go_enter Tryz.func76, Tryz.ntmps76
 go_wp2_with fail
 refine (zy CC _).mono ?_
 rintro e w1 ⟨a1, c1, rfl, r1, y1, b1⟩
 clear CC
 have CP1 := zx (zy CP w1 (zw (B1 _) b1) a1 c1 r1 y1)
 have BB := zx (zw (B1 _) b1)
 clear CP r1 y1 b1
 go_wp2_with fail
 refine (zy CP1).mono ?_
 rintro e w2 ⟨v', rfl, lv, gr, nx, kr⟩
 clear CP1
 obtain ⟨xa, xc, rfl⟩ := lv.form
 go_wp2_with fail
 go_ret
 exact XX (zy HL) (zy HM).blk ((zy HM).later (zy BB)) (Fl.of (zy BB)) lv gr nx
def Yj (ns : List (List Int)) (n : Nat) (d : Int) : Prop :=
 ∀ (D : Nat → Prop) (w : World) (B b m : Nat) (s : Mk) (v : Value) (l : List SY) (pv : Value) (p : PT), B ≤ w.heap.size → (∀ k, w.heap.size ≤ k → D k) → Mak (fun k => D k ∧ some k ≠ v.ownBlock) w B b m ns d s → LV w B v l → PartB B n w pv p → smP n p →
  Calls Tryz.prog 129 #[.pointer (some ⟨b, 0, none⟩), v, pv] w (LfR D B b m ns d v w (zX ns n d s l p))
theorem PtC.at {PV : Value → PT → Prop} : ∀ (ps : List PT) (cs : List Value) (j : Nat), PtC PV ps cs → j < ps.length → ∃ c0 c1 c2 c3 c4 p, cs[5 * j]? = some c0 ∧ cs[5 * j + 1]? = some c1 ∧ cs[5 * j + 2]? = some c2 ∧ cs[5 * j + 3]? = some c3 ∧ cs[5 * j + 4]? = some c4 ∧ PV (.agg #[c0, c1, c2, c3, c4]) p ∧ ps.drop j = p :: ps.drop (j + 1) := by
 intro ps
 induction ps with
 | nil => intro cs j _ hj; simp at hj
 | cons x ps ih =>
  intro cs j h hj
  obtain ⟨c0, c1, c2, c3, c4, cs', rfl, hv, ht⟩ := h
  cases j with
  | zero => exact ⟨c0, c1, c2, c3, c4, x, rfl, rfl, rfl, rfl, rfl, hv, rfl⟩
  | succ j =>
   obtain ⟨d0, d1, d2, d3, d4, p, h0, h1, h2, h3, h4, h5, h6⟩ := ih cs' j ht (by simp at hj; omega)
   refine ⟨d0, d1, d2, d3, d4, p, ?_, ?_, ?_, ?_, ?_, h5, by simpa using h6⟩
   ·rw [show 5 * (j + 1) = 5 * j + 1 + 1 + 1 + 1 + 1 by omega]; simpa using h0
   ·rw [show 5 * (j + 1) + 1 = 5 * j + 1 + 1 + 1 + 1 + 1 + 1 by omega]; simpa using h1
   ·rw [show 5 * (j + 1) + 2 = 5 * j + 2 + 1 + 1 + 1 + 1 + 1 by omega]; simpa using h2
   ·rw [show 5 * (j + 1) + 3 = 5 * j + 3 + 1 + 1 + 1 + 1 + 1 by omega]; simpa using h3
   ·rw [show 5 * (j + 1) + 4 = 5 * j + 4 + 1 + 1 + 1 + 1 + 1 by omega]; simpa using h4
theorem PartB.form {B : Nat} {n : Nat} {w : World} {c0 c1 c2 c3 c4 : Value} {p : PT} (h : PartB B n w (.agg #[c0, c1, c2, c3, c4]) p) : ∃ k S a n1 c a' n' c', c0 = .int .i64 k ∧ c1 = .string S ∧ c2 = .slice a n1 c ∧ c3 = .slice a' n' c' ∧ c4 = .int .i64 (atP p) ∧ k = kdP p := by
 cases n with
 | zero => exact h.elim
 | succ n =>
  obtain ⟨kk, t, R, L, q, aR, cR, aL, cL, cs, rfl, e2, -⟩ := h
  simp only [Value.agg.injEq, Array.mk.injEq, List.cons.injEq, and_true] at e2
  obtain ⟨rfl, rfl, rfl, rfl, rfl⟩ := e2
  exact ⟨_, _, _, _, _, _, _, _, rfl, rfl, rfl, rfl, rfl, rfl⟩
theorem parts_at {B n : Nat} {w : World} {a : Option Addr} {len cap : Nat} {L : List PT} {cs : List Value} (hr : Row5 (fun g => g < B) w a len cap cs) (hc : PtC (PartB B n w) L cs) (j : Nat) (hj : j < L.length) :
  ∃ g off k S a1 n1 c1 a2 n2 c2 p, a = some ⟨g, off, none⟩ ∧ g < w.heap.size ∧ w.cell? ⟨g, off + 5 * j, none⟩ = some (.int .i64 k) ∧ w.cell? ⟨g, off + 5 * j + 1, none⟩ = some (.string S) ∧ w.cell? ⟨g, off + 5 * j + 2, none⟩ = some (.slice a1 n1 c1) ∧ w.cell? ⟨g, off + 5 * j + 3, none⟩ = some (.slice a2 n2 c2) ∧ w.cell? ⟨g, off + 5 * j + 4, none⟩ = some (.int .i64 (atP p)) ∧
   PartB B n w (.agg #[.int .i64 k, .string S, .slice a1 n1 c1, .slice a2 n2 c2, .int .i64 (atP p)]) p ∧ L.drop j = p :: L.drop (j + 1) := by
 obtain ⟨c0, c1, c2, c3, c4, p, h0, h1, h2, h3, h4, hv, hd⟩ := PtC.at L cs j hc hj
 obtain ⟨k, S, a1, n1, d1, a2, n2, d2, rfl, rfl, rfl, rfl, rfl, -⟩ := PartB.form hv
 obtain ⟨g, off, ha, -, q0⟩ := hr.2.2 _ _ h0
 have key : ∀ i u, cs[5 * j + i]? = some u → w.cell? ⟨g, off + 5 * j + i, none⟩ = some u := fun i u hu => by
  obtain ⟨g', off', ha', -, q⟩ := hr.2.2 _ _ hu
  rw [ha] at ha'
  injection ha' with ha'
  injection ha' with e1 e2
  subst e1; subst e2
  rw [Nat.add_assoc]; exact q
 exact ⟨g, off, k, S, a1, n1, d1, a2, n2, d2, p, ha, zY q0, q0, key 1 _ h1, key 2 _ h2, key 3 _ h3, key 4 _ h4, hv, hd⟩
theorem Row5.fl {B b : Nat} {x : Option Nat} {w X : World} (f : Fl B b x w X) (hB : B ≤ w.heap.size) {a : Option Addr} {len cap : Nat} {cs : List Value} (h : Row5 (fun g => g < B) w a len cap cs) : Row5 (fun g => g < B) X a len cap cs :=
 h.kept (fun g hg => ⟨hg, f.low g hg (by omega)⟩)
theorem seq_bad {f : PF} {p : PT} {ps : List PT} {m : Mk} {l : List SY} (h : m.why ≠ 0) : Za f (p :: ps) m l = (m, l) := by unfold Za; rw [if_pos h]
theorem seq_on {f : PF} {p : PT} {ps : List PT} {m : Mk} {l : List SY} (h : m.why = 0) : Za f (p :: ps) m l = Za f ps (f m l p).1 (f m l p).2 := by
 conv => lhs; unfold Za
 rw [if_neg (fun c => c h)]
theorem fseq_l {ns : List (List Int)} {n : Nat} {d : Int} (HP : Yj ns n d) {D : Nat → Prop} {w : World} {B b m : Nat} {s : Mk} {v : Value} {l : List SY} (pv : Value) (p : PT) (hB : B ≤ w.heap.size) (hD : ∀ k, w.heap.size ≤ k → D k) (h : Mak (fun k => D k ∧ some k ≠ v.ownBlock) w B b m ns d s) (hL : LV w B v l) (hp : PartB B (n + 1) w pv p) (hs : smP (n + 1) p) :
  Calls Tryz.prog 77 #[.pointer (some ⟨b, 0, none⟩), v, pv] w (LfR D B b m ns d v w (Za (zX ns n d) (psP p) s l)) := by
 obtain ⟨mv, hm⟩ := h
 obtain ⟨k, t, R, L, q, aR, cR, aL, cL, cs, rfl, rfl, f1, ht, f3, -, -, h5, hc⟩ := hp
 obtain ⟨-, -, hsl, hsm⟩ := hs
 simp only [ps_mk] at hsl hsm ⊢
 have B1 : ∀ o, Below w.heap.size w (w.alloc o) := fun o => Below.new1 o
 have hlt := hm.lt
 have INV := zx (fun W (bW : Below w.heap.size w W) => InvL.start (D := D) hL hm bW)
 have HR5 := zx h5
 have HPC := zx hc
 have HSM := zx hsm
 have HDD := zx hD
 have HPP := zx HP
 have MB := zx hm.blk
 have VB := zx hL.block
 obtain ⟨la, lc, rfl⟩ := hL.form
 have hcl := h5.1
 have hmx := h5.2.1
 unfold maxLen at hmx
 clear hm hL h5 hc hsm hD HP ht
 generalize strOfNums t = S at *
 generalize hnL : L.length = nL at *
 have HNL := zx hnL
 clear hnL
 go_enter Tryz.func77, Tryz.ntmps77
 go_wp2_with fail
 have INV0 := zx (zy INV _ (B1 (.cells #[.int .i64 k, .string S, .slice aR R.length cR, .slice aL nL cL, .int .i64 q] 40)))
 clear INV
 go_loopw [1, 12] (fun lv i wr => ∃ (j : Nat) (s' : Mk) (l' : List SY), j ≤ nL ∧ i = .int .i64 (j : Int) ∧ Hid (Za (zX ns n d) L s l = Za (zX ns n d) (L.drop j) s' l') ∧ Hid (InvL D B b m ns d (.slice la l.length lc) w s' lv l' wr) ∧ w.heap.size ≤ wr.heap.size) (fun _ i _ => nL - (intOf i).toNat)
 case atStart => exact ⟨0, s, l, Nat.zero_le _, rfl, rfl, INV0, (zy INV0).2.2.1.size⟩
 case round =>
  obtain ⟨j, s', l', hj, rfl, hT, hI, hsw⟩ := hrel
  obtain ⟨xa, xc, rfl⟩ := (zy hI).1.form
  by_cases hlt2 : j < nL
  ·have KR1 : KR w wr := (zy hI).2.2.1.kr (zy MB).choose_spec.choose_spec (zy VB)
   obtain ⟨g, off, k1, S1, a1, n1, c1, a2, n2, c2, p1, rfl, hg, q0, q1, q2, q3, q4, pv1, hd⟩ := parts_at (Row5.fl (zy hI).2.2.1 hB (zy HR5)) (PtC.mono (fun u x hx => PartB.kept (fun g hg => ⟨hg, (zy hI).2.2.1.low g hg (by omega)⟩) KR1 n u x hx) _ _ (zy HPC)) j (by rw [zy HNL]; exact hlt2)
   clear KR1
   have HPV := zx pv1
   have HD1 := zx hd
   obtain ⟨mv1, hmk⟩ := (zy hI).2.1
   have c14 := (yK hmk.cells).2.2.2.2.2.1
   have hb14 := hmk.lt
   have n5 : j * 5 = 5 * j := by omega
   clear pv1 hd hmk
   by_cases hw0 : s'.why = 0
   ·have hbb : (s'.why != 0) = false := by rw [hw0]; rfl
    have NXT : Hid (Za (zX ns n d) L s l = Za (zX ns n d) (L.drop (j + 1)) (zX ns n d s' l' p1).1 (zX ns n d s' l' p1).2) := by show _ = _; rw [zy hT, zy HD1, seq_on hw0]
    have SM1 : Hid (smP n p1) := zy HSM p1 (List.mem_of_mem_drop (i := j) (by rw [zy HD1]; exact List.mem_cons_self ..))
    have CP := zx (fun W (bW : Below wr.heap.size wr W) => zy HPP D W B b m s' (.slice xa l'.length xc) l' _ p1 (by have := bW.size; omega) (fun k hk => zy HDD k (by have := bW.size; omega)) ((zy hI).more bW).2.1 ((zy hI).1.later bW) (PartB.kept (fun g hg => ⟨hg, bW.block g (by omega)⟩) (KR.of bW) n _ p1 (zy HPV)) (zy SM1))
    clear hT HPV HD1 SM1 hw0
    go_wp2_with fail
    refine (zy CP _ (Below.new1 _)).mono ?_
    clear CP
    rintro e w2 lf
    obtain ⟨v2, rfl, lv2, -⟩ := id lf
    obtain ⟨ya, yc, rfl⟩ := lv2.form
    have NI := zx (((zy hI).more (Below.new1 _)).on lf)
    have s2 := (zy NI).2.2.1.size
    clear lf lv2 hI
    go_wp2_with fail
    go_roundw
    case rel => exact ⟨j + 1, _, _, by omega, by simp, NXT, NI, s2⟩
    case measure => simp [intOf]; omega
   ·have hbb : (s'.why != 0) = true := by rw [bne_iff_ne]; exact hw0
    have FIN : Hid (Za (zX ns n d) L s l = (s', l')) := by show _ = _; rw [zy hT, zy HD1, seq_bad hw0]
    clear hT HPV HD1 hw0
    go_wp2_with fail
    go_ret
    rw [zy FIN]
    exact ((zy hI).more (Below.new1 _)).out
  ·obtain rfl : j = nL := by omega
   have FIN : Hid (Za (zX ns n d) L s l = (s', l')) := by
    show _ = _
    rw [zy hT, List.drop_eq_nil_of_le (by rw [zy HNL]; exact Nat.le_refl _)]
    rfl
   go_wp2_with fail
   go_ret
   rw [zy FIN]
   exact (zy hI).out
def AlR (D : Nat → Prop) (B b m : Nat) (ns : List (List Int)) (d : Int) (w : World) (r : Mk × List (List SY)) (e : Ending) (w' : World) : Prop :=
 ∃ av, e = .returned av ∧ AltV D w' av r.2 ∧ Mak D w' B b m ns d r.1 ∧ Fl B b none w w' ∧ r.2.length ≤ 9
theorem each_bad {f : PF} {p : PT} {ps : List PT} {m : Mk} {a : List (List SY)} (h : m.why ≠ 0) : qu f (p :: ps) m a = (m, a) := by unfold qu; rw [if_pos h]
theorem each_on {f : PF} {p : PT} {ps : List PT} {m : Mk} {a : List (List SY)} (h : m.why = 0) : qu f (p :: ps) m a = qu f ps (f m [] p).1 (if a.length ≤ 8 then a ++ [(f m [] p).2] else a) := by
 conv => lhs; unfold qu
 rw [if_neg (fun c => c h)]
theorem syms_info : (Tryz.prog.info? 46).map (fun i => (i.zero, i.size, i.bytes)) = some (some (.slice none 0 0), 1, 24) := by kernel_rfl
theorem new_syms (w : World) (n : Nat) (x0 : Value) (hn : n = w.heap.size) : ∀ (j : Nat) (u : Value), [x0][j]? = some u → (w.alloc (.cells #[x0] 46)).cell? ((⟨n, 0, none⟩ : Addr).add j) = some u := by
 subst hn
 exact World.news_of_block (cs := #[x0]) (t := 46) (fr := (0, 0)) (heap_alloc_new w _)
def InvA (D : Nat → Prop) (B b m : Nat) (ns : List (List Int)) (d : Int) (w : World) (s : Mk) (av : Value) (A : List (List SY)) (wr : World) : Prop :=
 AlV D wr w.heap.size av A ∧ Mak (fun k => D k ∧ some k ≠ av.ownBlock) wr B b m ns d s ∧ Fl B b none w wr
theorem InvA.more {D : Nat → Prop} {B b m : Nat} {ns : List (List Int)} {d : Int} {w wr X : World} {s : Mk} {av : Value} {A : List (List SY)} (h : InvA D B b m ns d w s av A wr) (k : Below wr.heap.size wr X) : InvA D B b m ns d w s av A X := by
 obtain ⟨⟨h1, cs, own, hs⟩, ⟨mv, h2⟩, h3⟩ := h
 exact ⟨⟨h1, cs, ju k own, SqC.kp (Kp.of k) _ _ hs⟩, ⟨mv, h2.later k⟩, h3.then (Fl.of (x := none) k) (fun g e => by cases e)⟩
theorem AlV.form {D : Nat → Prop} {w : World} {B : Nat} {v : Value} {A : List (List SY)} (h : AlV D w B v A) : ∃ a c, v = .slice a A.length c := by
 obtain ⟨-, cs, own, -⟩ := h
 exact xo own
theorem InvA.dd {D : Nat → Prop} {B b m : Nat} {ns : List (List Int)} {d : Int} {w wr : World} {s : Mk} {av : Value} {A : List (List SY)} (h : InvA D B b m ns d w s av A wr) (hD : ∀ k, w.heap.size ≤ k → D k) : ∀ k, wr.heap.size ≤ k → D k ∧ some k ≠ av.ownBlock := by
 obtain ⟨⟨h1, cs, own, hs⟩, -, h3⟩ := h
 intro k hk
 refine ⟨hD k (Nat.le_trans h3.size hk), fun e => ?_⟩
 have := (own.lt k e.symm).2
 omega
theorem InvA.out {D : Nat → Prop} {B b m : Nat} {ns : List (List Int)} {d : Int} {w wr : World} {s : Mk} {av : Value} {A : List (List SY)} (h : InvA D B b m ns d w s av A wr) (hD : ∀ k, w.heap.size ≤ k → D k) : AlR D B b m ns d w (s, A) (.returned av) wr := by
 obtain ⟨h1, ⟨mv, h2⟩, h3⟩ := h
 refine ⟨av, rfl, h1.alt (fun g hg => ?_), ⟨mv, h2.weak (fun g _ hd => hd.1)⟩, h3, h1.1⟩
 obtain ⟨-, cs, own, -⟩ := h1
 exact hD g (own.lt g hg).1
theorem InvA.part {D : Nat → Prop} {B b m : Nat} {ns : List (List Int)} {d : Int} {w wr w2 : World} {s : Mk} {av v2 : Value} {A : List (List SY)} {r : Mk × List SY} (h : InvA D B b m ns d w s av A wr) (hD : ∀ k, w.heap.size ≤ k → D k) (lf : LfR (fun k => D k ∧ some k ≠ av.ownBlock) B b m ns d (.slice none 0 0) wr r (.returned v2) w2) : InvA D B b m ns d w r.1 av A w2 ∧ SymsV D w2 v2 r.2 := by
 obtain ⟨h1, ⟨mv, h2⟩, h3⟩ := h
 obtain ⟨v', e, lv, ⟨mv', mk'⟩, fl, nx⟩ := lf
 injection e with e
 subst e
 have s3 := h3.size
 refine ⟨⟨?_, ⟨mv', mk'.weak (fun g _ hd => hd.1)⟩, h3.then fl (fun g e => by cases e)⟩, lv.syms (fun g hg => ?_)⟩
 ·obtain ⟨a1, cs, own, hs⟩ := h1
  refine ⟨a1, cs, Zi own (fun g o hg ho => ?_), SqC.kp (fl.kp h2.cells (fun k e => by cases e) (fun g _ hd => ⟨by simp [Value.ownBlock], hd⟩)) _ _ hs⟩
  obtain ⟨c1, hc⟩ := je own g hg
  rw [hc] at ho
  injection ho with ho
  subst ho
  exact fl.block g _ hc (yz hc h2.cells (by decide)) (by simp [Value.ownBlock]) (fun c2 f2 e => by injection e with _ e; exact absurd e (by decide))
 ·rcases nx g hg with c | c
  ·cases c
  ·exact hD g (by omega)
theorem InvA.snoc {D : Nat → Prop} {B b m : Nat} {ns : List (List Int)} {d : Int} {w wr w6 : World} {s : Mk} {av v2 : Value} {A : List (List SY)} {l : List SY} {o : Obj} {gg cap : Nat} {cs : List Value} (h : InvA D B b m ns d w s av A wr) (hA : A.length ≤ 8) (hv : SymsV D wr v2 l) (hs : SqC D wr A cs) (hl : wr.ownsRow w.heap.size 46 1 av A.length cs) (hB : B ≤ w.heap.size)
  (ho : w6.ownsRow w.heap.size 46 1 (.slice (some ⟨gg, 0, none⟩) (A.length + 1) cap) (A.length + 1) (cs ++ [v2])) (hg : (wr.alloc o).grownBy w6 av.ownBlock) (hat : av.ownBlock = some gg ∨ gg = (wr.alloc o).heap.size) : InvA D B b m ns d w s (.slice (some ⟨gg, 0, none⟩) (A.length + 1) cap) (A ++ [l]) w6 := by
 have h' := h.more (Below.new1 (w := wr) o)
 obtain ⟨-, ⟨mv, h2⟩, h3⟩ := h'
 have blk : ∀ k, av.ownBlock = some k → w.heap.size ≤ k ∧ ∃ cs, (wr.alloc o).heap[k]? = some (.cells cs 46) := fun k hk => by
  obtain ⟨c, hc⟩ := je hl k hk
  exact ⟨(hl.lt k hk).1, c, zK hc o⟩
 have hne : ∀ (k : Nat) (o' : Obj), (wr.alloc o).heap[k]? = some o' → (∀ c fr, o' ≠ .cells c 46 fr) → w6.heap[k]? = some o' := fun k o' hk hno => by
  rw [hg.block k (Array.getElem?_eq_some_iff.1 hk).1 (fun e => ?_)]
  ·exact hk
  ·obtain ⟨-, c, hc⟩ := blk k e.symm
   rw [hk] at hc; injection hc with hc; exact hno _ _ hc
 have ne_t : ∀ (cs : Array Value) (t : TypeId) (fr : Nat × Nat), t ≠ 46 → ∀ c f, Obj.cells cs t fr ≠ .cells c 46 f := fun cs t fr ht c f e => by injection e with _ e; exact ht e
 have kr : KR (wr.alloc o) w6 := fun g c fr hk => hne g _ hk (ne_t _ _ _ (by decide))
 refine ⟨⟨by rw [List.length_append]; simp; omega, _, by rw [List.length_append]; exact ho, ?_⟩, ⟨mv, ⟨h2.hB, h2.hm, h2.d0, h2.l0, hne b _ h2.cells (ne_t _ _ _ (by decide)), ?_, ?_⟩⟩, ?_⟩
 ·have hv' : SymsV D w6 v2 l := by
   obtain ⟨a, c, cs', e, hr, hy⟩ := hv
   exact ⟨a, c, cs', e, hr.kept (fun g cur fr hd hgg => ⟨hd, hne g _ (zK hgg o) (ne_t _ _ _ (by decide))⟩), SyC.kr ((KR.of (Below.new1 o)).then kr) _ _ hy⟩
  have mono : ∀ (A : List (List SY)) (cs : List Value), SqC D wr A cs → SqC D w6 A cs := by
   intro A
   induction A with
   | nil => intro cs h; exact h
   | cons l A ih =>
    intro cs h
    obtain ⟨c0, cs', e, ⟨a, c, cs2, e2, hr, hy⟩, ht⟩ := h
    exact ⟨c0, cs', e, ⟨a, c, cs2, e2, hr.kept (fun g cur fr hd hgg => ⟨hd, hne g _ (zK hgg o) (ne_t _ _ _ (by decide))⟩), SyC.kr ((KR.of (Below.new1 o)).then kr) _ _ hy⟩, ih _ ht⟩
  exact SqC.snoc hv' _ _ (mono _ _ hs)
 ·obtain ⟨m1, cs', own, hp⟩ := h2.made
  refine ⟨m1, cs', Zi own (fun g o' hgg ho' => ?_), PrC.kp ⟨kr, fun g cur fr t ht hd hgg => ⟨⟨hd.1, fun e => ?_⟩, ?_⟩⟩ _ _ hp⟩
  ·obtain ⟨c1, hc⟩ := je own g hgg
   rw [hc] at ho'
   injection ho' with ho'
   subst ho'
   exact hne g _ hc (ne_t _ _ _ (by decide))
  ·rw [hg.block g (Array.getElem?_eq_some_iff.1 hgg).1 hd.2]; exact hgg
  ·simp only [Value.ownBlock, Option.some.injEq] at e
   rcases hat with c | c
   ·exact hd.2 (by rw [c, e])
   ·have := (Array.getElem?_eq_some_iff.1 hgg).1; omega
 ·exact h2.names.keep (fun o' ho' hno => hne m o' ho' (fun c f => hno _ _ _))
 ·refine ⟨hg.os.trans h3.os, hg.tape.trans h3.tape, hg.output.trans h3.output, Nat.le_trans h3.size hg.size, fun k h1 h2 => ?_, fun k o' h1 h2 h3' h4 => ?_⟩
  ·rw [hg.block k (Nat.lt_of_lt_of_le h2 h3.size) (fun e => by have := (blk k e.symm).1; omega)]
   exact h3.low k h1 h2
  ·have hk := (Array.getElem?_eq_some_iff.1 h1).1
   rw [hg.block k (Nat.lt_of_lt_of_le hk h3.size) (fun e => by have := (blk k e.symm).1; omega)]
   exact h3.block k o' h1 h2 h3' h4
theorem feach_l {ns : List (List Int)} {n : Nat} {d : Int} (HP : Yj ns n d) {D : Nat → Prop} {w : World} {B b m : Nat} {s : Mk} (pv : Value) (p : PT) (k0 n0 : Int) (sa : Option Addr) (sn sc : Nat) (hB : B ≤ w.heap.size) (hD : ∀ k, w.heap.size ≤ k → D k) (h : Mak D w B b m ns d s) (hp : PartB B (n + 1) w pv p) (hs : smP (n + 1) p) :
  Calls Tryz.prog 131 #[.pointer (some ⟨b, 0, none⟩), pv, .agg #[.int .i64 k0, .slice sa sn sc, .int .i64 n0]] w (AlR D B b m ns d w (qu (zX ns n d) (psP p) s [])) := by
 obtain ⟨mv, hm⟩ := h
 obtain ⟨k, t, R, L, q, aR, cR, aL, cL, cs, rfl, rfl, f1, ht, f3, -, -, h5, hc⟩ := hp
 obtain ⟨-, -, hsl, hsm⟩ := hs
 simp only [ps_mk] at hsl hsm ⊢
 have B2 : ∀ o1 o2, Below w.heap.size w ((w.alloc o1).alloc o2) := fun o1 o2 => (Below.new1 o1).alloc (by simp) o2
 have hlt := hm.lt
 have INV := zx (fun W (bW : Below w.heap.size w W) => show InvA D B b m ns d w s (.slice none 0 0) [] W from ⟨⟨Nat.zero_le _, [], World.ownsRow_nil _ _ _ _, rfl⟩, ⟨mv, (hm.later bW).weak (fun g _ hd => ⟨hd, by simp [Value.ownBlock]⟩)⟩, Fl.of bW⟩)
 have HR5 := zx h5
 have HPC := zx hc
 have HSM := zx hsm
 have HDD := zx hD
 have HPP := zx HP
 have MB := zx hm.blk
 have hcl := h5.1
 have hmx := h5.2.1
 unfold maxLen at hmx
 clear hm h5 hc hsm hD HP ht
 generalize strOfNums t = S at *
 generalize hnL : L.length = nL at *
 have HNL := zx hnL
 clear hnL
 go_enter Tryz.func131, Tryz.ntmps131
 go_wp2_with fail
 have INV0 := zx (zy INV _ (B2 (.cells #[.int .i64 k, .string S, .slice aR R.length cR, .slice aL nL cL, .int .i64 q] 40) (.cells #[.int .i64 k0, .slice sa sn sc, .int .i64 n0] 64)))
 clear INV
 go_loopw [7, 14] (fun av i wr => ∃ (j : Nat) (s' : Mk) (A : List (List SY)), j ≤ nL ∧ i = .int .i64 (j : Int) ∧ Hid (qu (zX ns n d) L s [] = qu (zX ns n d) (L.drop j) s' A) ∧ Hid (InvA D B b m ns d w s' av A wr) ∧ w.heap.size ≤ wr.heap.size) (fun _ i _ => nL - (intOf i).toNat)
 case atStart => exact ⟨0, s, [], Nat.zero_le _, rfl, rfl, INV0, (zy INV0).2.2.size⟩
 case round =>
  obtain ⟨j, s', A, hj, rfl, hT, hI, hsw⟩ := hrel
  obtain ⟨xa, xc, rfl⟩ := (zy hI).1.form
  have h9 := (zy hI).1.1
  by_cases hlt2 : j < nL
  ·have KR1 : KR w wr := (zy hI).2.2.kr (zy MB).choose_spec.choose_spec (Zk _)
   obtain ⟨g, off, k1, S1, a1, n1, c1, a2, n2, c2, p1, rfl, hg, q0, q1, q2, q3, q4, pv1, hd⟩ := parts_at (Row5.fl (zy hI).2.2 hB (zy HR5)) (PtC.mono (fun u x hx => PartB.kept (fun g hg => ⟨hg, (zy hI).2.2.low g hg (by omega)⟩) KR1 n u x hx) _ _ (zy HPC)) j (by rw [zy HNL]; exact hlt2)
   clear KR1
   have HPV := zx pv1
   have HD1 := zx hd
   obtain ⟨mv1, hmk⟩ := (zy hI).2.1
   have c14 := (yK hmk.cells).2.2.2.2.2.1
   have hb14 := hmk.lt
   have n5 : j * 5 = 5 * j := by omega
   clear pv1 hd hmk
   by_cases hw0 : s'.why = 0
   ·have hbb : (s'.why != 0) = false := by rw [hw0]; rfl
    have NXT : Hid (qu (zX ns n d) L s [] = qu (zX ns n d) (L.drop (j + 1)) (zX ns n d s' [] p1).1 (if A.length ≤ 8 then A ++ [(zX ns n d s' [] p1).2] else A)) := by show _ = _; rw [zy hT, zy HD1, each_on hw0]
    have SM1 : Hid (smP n p1) := zy HSM p1 (List.mem_of_mem_drop (i := j) (by rw [zy HD1]; exact List.mem_cons_self ..))
    have CP := zx (fun W (bW : Below wr.heap.size wr W) => zy HPP (fun k => D k ∧ some k ≠ (Value.slice xa A.length xc).ownBlock) W B b m s' (.slice none 0 0) [] _ p1 (by have := bW.size; omega) (((zy hI).more bW).dd (zy HDD)) (by
      obtain ⟨mv9, h9⟩ := ((zy hI).more bW).2.1
      exact ⟨mv9, h9.weak (fun g _ hd => ⟨hd, by simp [Value.ownBlock]⟩)⟩) (LV.nil W B) (PartB.kept (fun g hg => ⟨hg, bW.block g (by omega)⟩) (KR.of bW) n _ p1 (zy HPV)) (zy SM1))
    clear hT HPV HD1 SM1 hw0
    generalize hr : zX ns n d s' [] p1 = r at *
    clear hr
    go_wp2_with fail
    refine (zy CP _ (Below.new1 _)).mono ?_
    clear CP
    rintro e w2 lf
    obtain ⟨v2, rfl, lv2, -⟩ := id lf
    obtain ⟨ya, yc, rfl⟩ := lv2.form
    obtain ⟨NI, SV⟩ := ((zy hI).more (Below.new1 _)).part (zy HDD) lf
    have HNI := zx NI
    have HSV := zx SV
    have s2 := NI.2.2.size
    clear lf lv2 hI SV NI
    by_cases h8 : A.length ≤ 8
    ·rw [if_pos h8] at NXT
     have b8 : decide ((A.length : Int) ≤ 8) = true := decide_eq_true (by omega)
     obtain ⟨ti, hi0, hz0, hz1, hz2⟩ := info_parts syms_info
     obtain ⟨-, cs2, HO, hsq⟩ := (zy HNI).1
     have HSQ := zx hsq
     clear hsq
     go_wp2_with (at_builtin; refine wpList_append_lies _ rfl _ _ 43 rfl w.heap.size 46 ti _ 1 24 Tryz.underlying43 hi0 hz0 hz1 hz2 rfl (by omega) _ _ _ rfl (HO.alloc _) ⟨w2.heap.size, 0, none⟩ 1 1 [.slice ya r.2.length yc] rfl rfl (new_syms _ _ _ rfl) (by simp [Value.oneCell']) (by omega) (by unfold maxLen; omega) (by omega) (by simp; omega) (w2.heap.size + 1) (by simp) ?_; intro gg cap1 w6 hown1 hgrow hat hlt1)
     have NI2 := zx ((zy HNI).snoc h8 (zy HSV) (zy HSQ) HO hB hown1 hgrow (by rcases hat with h | h; exact .inl h; exact .inr (by simp [h])))
     have s6 := (zy NI2).2.2.size
     clear hown1 hgrow hat HO HSQ HNI
     (try go_wp2_with fail)
     go_roundw
     case rel => exact ⟨j + 1, _, A ++ [r.2], by omega, by simp, NXT, NI2, s6⟩
     case measure => simp [intOf]; omega
    ·rw [if_neg h8] at NXT
     have b8 : decide ((A.length : Int) ≤ 8) = false := decide_eq_false (by omega)
     go_wp2_with fail
     go_roundw
     case rel => exact ⟨j + 1, _, A, by omega, by simp, NXT, HNI, s2⟩
     case measure => simp [intOf]; omega
   ·have hbb : (s'.why != 0) = true := by rw [bne_iff_ne]; exact hw0
    have FIN : Hid (qu (zX ns n d) L s [] = (s', A)) := by show _ = _; rw [zy hT, zy HD1, each_bad hw0]
    clear hT HPV HD1 hw0
    go_wp2_with fail
    go_ret
    rw [zy FIN]
    exact ((zy hI).more (Below.new1 _)).out (zy HDD)
  ·obtain rfl : j = nL := by omega
   have FIN : Hid (qu (zX ns n d) L s [] = (s', A)) := by
    show _ = _
    rw [zy hT, List.drop_eq_nil_of_le (by rw [zy HNL]; exact Nat.le_refl _)]
    rfl
   go_wp2_with fail
   go_ret
   rw [zy FIN]
   exact (zy hI).out (zy HDD)
end Go.Proofs.YtnfgobgflcmepaaGreatDoor.F
