/- The contract of the document's answer for layer 3: Of. -/
import Derived.Test.YtejipaapbfjooaaDoorSqRef
import Derived.Test.YtejipaapbfjooaaDoorRgRefs
import Derived.Test.YtejipaapbfjooaaDoorUtfRef
import Derived.Deep.DeepCutAuto
import Derived.Deep.RegionHeld3
namespace Go.Proofs.YtejipaapbfjooaaDoor
open Go.RowKit
set_option linter.unusedVariables false
set_option linter.unusedSimpArgs false

/-- several blocks, one behind the other -/
def allocs (w : World) (os : List Obj) : World := os.foldl World.alloc w
theorem allocs_size (w : World) (os : List Obj) : (allocs w os).heap.size = w.heap.size + os.length := by
  induction os generalizing w with
  | nil => simp [allocs]
  | cons o t ih =>
    have : allocs w (o :: t) = allocs (w.alloc o) t := rfl
    rw [this, ih]; simp; omega
theorem allocs_old (w : World) (os : List Obj) (k : Nat) (hk : k < w.heap.size) : (allocs w os).heap[k]? = w.heap[k]? := by
  induction os generalizing w with
  | nil => rfl
  | cons o t ih =>
    have : allocs w (o :: t) = allocs (w.alloc o) t := rfl
    rw [this, ih (w.alloc o) (by simp; omega)]
    exact Below.heap_alloc w o k hk
theorem allocs_at (w : World) (os : List Obj) (i : Nat) (hi : i < os.length) : (allocs w os).heap[w.heap.size + i]? = os[i]? := by
  induction os generalizing w i with
  | nil => simp at hi
  | cons o t ih =>
    have e : allocs w (o :: t) = allocs (w.alloc o) t := rfl
    rw [e]
    cases i with
    | zero =>
      rw [Nat.add_zero, allocs_old _ _ _ (by simp)]
      simpa using World.alloc_heap_new w o
    | succ i =>
      have := ih (w.alloc o) i (by simpa using hi)
      rw [show w.heap.size + (i + 1) = (w.alloc o).heap.size + i by simp; omega, this]
      simp
theorem allocs_below (w : World) (os : List Obj) : Below w.heap.size w (allocs w os) := by
  induction os generalizing w with
  | nil => exact Below.refl _ _
  | cons o t ih =>
    have e : allocs w (o :: t) = allocs (w.alloc o) t := rfl
    rw [e]
    exact (Below.new1 o).trans ((ih (w.alloc o)).mono (by simp))

/-- the literals of Of -/
abbrev lits (w : World) : List Obj := [.cells #[.int .i64 0, .int .i64 128, .int .i64 2048, .int .i64 57344, .int .i64 65536] 3, .cells #[.int .i64 127, .int .i64 2047, .int .i64 55295, .int .i64 65535, .int .i64 1114111] 3,
  .cells #[] 3, .cells #[.int .i64 64] 3, .cells #[.int .i64 4096, .int .i64 64] 3, .cells #[.int .i64 4096, .int .i64 64] 3, .cells #[.int .i64 262144, .int .i64 4096, .int .i64 64] 3,
  .cells #[.slice (some ⟨w.heap.size + 1 + 1, 0, none⟩) 0 0, .slice (some ⟨w.heap.size + 1 + 1 + 1, 0, none⟩) 1 1, .slice (some ⟨w.heap.size + 1 + 1 + 1 + 1, 0, none⟩) 2 2, .slice (some ⟨w.heap.size + 1 + 1 + 1 + 1 + 1, 0, none⟩) 2 2, .slice (some ⟨w.heap.size + 1 + 1 + 1 + 1 + 1 + 1, 0, none⟩) 3 3] 51]

/-- what the literals say of each width -/
def Tb (w : World) (p0 p1 p7 : Nat) : Prop := ∀ k, k < 5 → ∃ (x y : Int) (n r : Nat), (n ≤ 3 ∧ 0 ≤ x ∧ x ≤ 1114111 ∧ 0 ≤ y ∧ y ≤ 1114111) ∧ w.cell? ⟨p0, k, none⟩ = some (.int .i64 x) ∧ w.cell? ⟨p1, k, none⟩ = some (.int .i64 y) ∧
  w.cell? ⟨p7, k, none⟩ = some (.slice (some ⟨r, 0, none⟩) n n) ∧ (∀ j, j < n → w.cell? ⟨r, j, none⟩ = some (.int .i64 ((bysOf n).getD j 0))) ∧ Q.widthL.take (k + 1) = Q.widthL.take k ++ [((x, y), bysOf n)]
theorem Tb.later {w w' : World} {p0 p1 p7 : Nat} (h : Tb w p0 p1 p7) {B : Nat} (hb : Below B w w') (hB : w.heap.size ≤ B) : Tb w' p0 p1 p7 := by
  intro k hk
  obtain ⟨x, y, n, r, hn, c0, c1, c7, cr, ht⟩ := h k hk
  have up : ∀ {p : Addr} {v : Value}, p.spot = none → w.cell? p = some v → w'.cell? p = some v := by
    intro p v hp hv
    obtain ⟨pb, po, ps⟩ := p
    simp only at hp
    subst hp
    rw [hb.cell (p := ⟨pb, po, none⟩) (Nat.lt_of_lt_of_le (block_lt' hv) hB)]; exact hv
  exact ⟨x, y, n, r, hn, up rfl c0, up rfl c1, up rfl c7, fun j hj => up rfl (cr j hj), ht⟩
theorem tb_of (w : World) : Tb (allocs w (lits w)) w.heap.size (w.heap.size + 1) (w.heap.size + 1 + 1 + 1 + 1 + 1 + 1 + 1) := by
  have h : ∀ i (o : Obj), (lits w)[i]? = some o → (allocs w (lits w)).heap[w.heap.size + i]? = some o := fun i o ho => by
    rw [allocs_at w (lits w) i (List.getElem?_eq_some_iff.1 ho).1]; exact ho
  have c : ∀ (i j : Nat) (cs : Array Value) (t : TypeId), (lits w)[i]? = some (.cells cs t) → (allocs w (lits w)).cell? ⟨w.heap.size + i, j, none⟩ = cs[j]? := fun i j cs t ho => cell_of_row _ _ j cs t (0, 0) (h i _ ho)
  intro k hk
  have : k = 0 ∨ k = 1 ∨ k = 2 ∨ k = 3 ∨ k = 4 := by omega
  rcases this with rfl | rfl | rfl | rfl | rfl
  · exact ⟨0, 127, 0, w.heap.size + 2, by omega, c 0 0 _ _ rfl, c 1 0 _ _ rfl, c 7 0 _ _ rfl, fun j hj => by omega, rfl⟩
  · refine ⟨128, 2047, 1, w.heap.size + 3, by omega, c 0 1 _ _ rfl, c 1 1 _ _ rfl, c 7 1 _ _ rfl, fun j hj => ?_, rfl⟩
    obtain rfl : j = 0 := by omega
    exact c 3 0 _ _ rfl
  · refine ⟨2048, 55295, 2, w.heap.size + 4, by omega, c 0 2 _ _ rfl, c 1 2 _ _ rfl, c 7 2 _ _ rfl, fun j hj => ?_, rfl⟩
    have : j = 0 ∨ j = 1 := by omega
    rcases this with rfl | rfl
    · exact c 4 0 _ _ rfl
    · exact c 4 1 _ _ rfl
  · refine ⟨57344, 65535, 2, w.heap.size + 5, by omega, c 0 3 _ _ rfl, c 1 3 _ _ rfl, c 7 3 _ _ rfl, fun j hj => ?_, rfl⟩
    have : j = 0 ∨ j = 1 := by omega
    rcases this with rfl | rfl
    · exact c 5 0 _ _ rfl
    · exact c 5 1 _ _ rfl
  · refine ⟨65536, 1114111, 3, w.heap.size + 6, by omega, c 0 4 _ _ rfl, c 1 4 _ _ rfl, c 7 4 _ _ rfl, fun j hj => ?_, rfl⟩
    have : j = 0 ∨ j = 1 ∨ j = 2 := by omega
    rcases this with rfl | rfl | rfl
    · exact c 6 0 _ _ rfl
    · exact c 6 1 _ _ rfl
    · exact c 6 2 _ _ rfl

theorem rput_bs (r : Int) (w : World) (h : U.mayB r = true) :
    Calls Tryd.prog 31 #[.int .i64 r] w fun e w' => ∃ k, e = .returned (.tuple #[.slice (some ⟨k, 0, none⟩) (U.putL r).length (U.putL r).length, .bool true]) ∧ Bs w' (some ⟨k, 0, none⟩) (U.putL r).length (U.putL r).length (U.putL r) ∧ Below w.heap.size w w' :=
  (refPut_yes r w h).mono fun e w' ⟨he, hw⟩ => ⟨w.heap.size, he, by
    subst hw
    exact Bs.fresh w (U.putL r) (U.putL_bytes h) (by have := (U.putL_len r).2; unfold maxLen; omega), by subst hw; exact Below.new1 _⟩

/-- a block that holds a range -/
def Bx (w : World) (k : Nat) (x y : Int) : Prop := w.heap[k]? = some (.cells #[.int .i64 x, .int .i64 y] 41)
theorem Bx.c0 {w : World} {k : Nat} {x y : Int} (h : Bx w k x y) : w.cell? ⟨k, 0, none⟩ = some (.int .i64 x) := by rw [cell_of_row _ _ 0 _ _ _ h]; rfl
theorem Bx.c1 {w : World} {k : Nat} {x y : Int} (h : Bx w k x y) : w.cell? ⟨k, 1, none⟩ = some (.int .i64 y) := by rw [cell_of_row _ _ 1 _ _ _ h]; rfl
theorem Bx.fr {w : World} {k : Nat} {x y : Int} (h : Bx w k x y) (j : Nat) : w.frozen? ⟨k, j, none⟩ = false := frozen_of_row w k j _ _ h
theorem Bx.set0 {w : World} {k : Nat} {x y : Int} (h : Bx w k x y) (z : Int) : Bx (w.setCell ⟨k, 0, none⟩ (.int .i64 z)) k z y := (heap_setCell_same w k 0 _ _ _ h).trans rfl
theorem Bx.set1 {w : World} {k : Nat} {x y : Int} (h : Bx w k x y) (z : Int) : Bx (w.setCell ⟨k, 1, none⟩ (.int .i64 z)) k x z := (heap_setCell_same w k 1 _ _ _ h).trans rfl
theorem Bx.lt {w : World} {k : Nat} {x y : Int} (h : Bx w k x y) : k < w.heap.size := (Array.getElem?_eq_some_iff.1 h).1
theorem Bx.later {w w' : World} {k : Nat} {x y : Int} (h : Bx w k x y) {B : Nat} (hb : Below B w w') (hB : w.heap.size ≤ B) : Bx w' k x y := (hb.block k (Nat.lt_of_lt_of_le h.lt hB)).trans h
theorem below_cell {w w' : World} {B : Nat} (hb : Below B w w') (hB : w.heap.size ≤ B) {k o : Nat} {v : Value} (h : w.cell? ⟨k, o, none⟩ = some v) : w'.cell? ⟨k, o, none⟩ = some v := by
  rw [hb.cell (p := ⟨k, o, none⟩) (Nat.lt_of_lt_of_le (block_lt' h) hB)]; exact h

theorem keepS {w5 w6 : World} {B : Nat} {e : TypeId} {sz n : Nat} {v : Value} {xs : List Value} (ho : w5.ownsRow B e sz v n xs) (hg : w5.grownBy w6 v.ownBlock) {k o : Nat} {u : Value} (h : w5.cell? ⟨k, o, none⟩ = some u) (hk : k < B) : w6.cell? ⟨k, o, none⟩ = some u :=
  hg.cell h (fun e => by have := (ho.lt k e.symm).1; omega)
theorem foldS_nil (ks : List Int) : foldS ks [] = [] := by
  induction ks with
  | nil => rfl
  | cons k t ih => exact ih
theorem pieces_none {x y lo hi : Int} {n : Nat} (h : min y hi < max x lo) : Q.piecesL ((x, y), bysOf n) (lo, hi) = [] := by
  have : Q.clipW (x, y) (lo, hi) = [] := by unfold Q.clipW; rw [if_neg (by simp only; omega)]
  show foldS (bysOf n) (Q.clipW (x, y) (lo, hi)) = []
  rw [this]; exact foldS_nil _
theorem pieces_some {x y lo hi : Int} {n : Nat} (h : max x lo ≤ min y hi) : foldS (bysOf n) [(max x lo, min y hi)] = Q.piecesL ((x, y), bysOf n) (lo, hi) := by
  have : Q.clipW (x, y) (lo, hi) = [(max x lo, min y hi)] := by unfold Q.clipW; rw [if_pos h]
  show _ = foldS (bysOf n) (Q.clipW (x, y) (lo, hi))
  rw [this]
theorem bys_at {n q : Nat} (hn : n ≤ 3) (hq : q < n) : Q.step ((bysOf n).getD q 0) ∧ (bysOf n).drop q = (bysOf n).getD q 0 :: (bysOf n).drop (q + 1) := by
  have : n = 1 ∨ n = 2 ∨ n = 3 := by omega
  rcases this with rfl | rfl | rfl
  · obtain rfl : q = 0 := by omega
    exact ⟨Q.st64, rfl⟩
  · have : q = 0 ∨ q = 1 := by omega
    rcases this with rfl | rfl
    · exact ⟨Q.st4096, rfl⟩
    · exact ⟨Q.st64, rfl⟩
  · have : q = 0 ∨ q = 1 ∨ q = 2 := by omega
    rcases this with rfl | rfl | rfl
    · exact ⟨Q.st262144, rfl⟩
    · exact ⟨Q.st4096, rfl⟩
    · exact ⟨Q.st64, rfl⟩
theorem bys_len {n : Nat} (hn : n ≤ 3) : (bysOf n).length = n := by
  have : n = 0 ∨ n = 1 ∨ n = 2 ∨ n = 3 := by omega
  rcases this with rfl | rfl | rfl | rfl <;> rfl
theorem rsplit_any (k : Int) (hk : Q.step k) (lo hi : Int) (w : World) (h0 : 0 ≤ lo) (h1 : lo ≤ hi) (h2 : hi ≤ 1114111) :
    Calls Tryd.prog 30 #[.agg #[.int .i64 lo, .int .i64 hi], .int .i64 k] w (LiO w (Q.cutL k (lo, hi))) := by
  rcases hk with rfl | rfl | rfl
  · exact rsplit64_any lo hi w h0 h1 h2
  · exact rsplit4096_any lo hi w h0 h1 h2
  · exact rsplit262144_any lo hi w h0 h1 h2

set_option maxRecDepth 20000 in
set_option maxHeartbeats 8000000 in
theorem refOf3_any (a : Option Addr) (len cap : Nat) (L : List (Int × Int)) (w : World) (h : Rs w a len cap L) :
    Calls Tryd.prog 14 #[.slice a len cap] w fun e w' => ∃ N v, G.Is N (nrm L) ∧ e = .returned v ∧ Oq w' w.heap.size v (Q.ofN N) ∧ Below w.heap.size w w' := by
  have C := hideR (refNorm_any a len cap L (allocs w (lits w)) (h.later (allocs_below w _) (Nat.le_refl _)))
  have T8 := hideR (tb_of w)
  have B8 := hideR (allocs_below w (lits w))
  have z8 := allocs_size w (lits w)
  simp only [List.length_cons, List.length_nil] at z8
  clear h
  go_enter Tryd.func14, Tryd.ntmps14
  go_wp2_with fail
  refine (unhideR C).mono ?_
  rintro e w1 ⟨a1, l1, k1, N, rfl, r1, i1, b1⟩
  have hmax := r1.hmax
  have hcap := r1.hcap
  have hl1 := r1.hlen
  unfold maxLen at hmax
  have hNl := G.may_length i1.1
  have HI := hideR i1
  have HR := hideR r1
  have T1 := hideR ((unhideR T8).later b1 (Nat.le_refl _))
  have hsz := b1.size
  have HB := hideR ((unhideR B8).trans (b1.mono (by omega)))
  clear i1 b1 C r1 T8 B8
  generalize w.heap.size + 1 + 1 + 1 + 1 + 1 + 1 + 1 = p7 at *
  generalize w.heap.size + 1 + 1 + 1 + 1 + 1 + 1 = p6 at *
  generalize w.heap.size + 1 + 1 + 1 + 1 + 1 = p5 at *
  generalize w.heap.size + 1 + 1 + 1 + 1 = p4 at *
  generalize w.heap.size + 1 + 1 + 1 = p3 at *
  generalize w.heap.size + 1 + 1 = p2 at *
  generalize w.heap.size + 1 = p1 at *
  obtain ⟨p0, hp0⟩ : ∃ p0, w.heap.size = p0 := ⟨_, rfl⟩
  have hw1 : p0 ≤ w1.heap.size := by have := (unhideR HB).size; omega
  have HP0 := hideR hp0
  rw [hp0] at T1 HB ⊢
  clear hp0 z8 hsz
  go_wp2_with fail
  go_loopw [3, 8] (fun v i wr => ∃ (m : Nat) (out : List (List (Int × Int))), m ≤ l1 ∧ i = .int .i64 m ∧ Hid (out = Q.ofN (N.take m)) ∧ out.length ≤ 135 * m ∧ Hid (Oq wr w1.heap.size v out) ∧ Below w1.heap.size w1 wr) (fun _ i _ => l1 - (intOf i).toNat)
  case atStart => exact ⟨0, [], Nat.zero_le _, rfl, by show [] = _; simp [Q.ofN, Q.partsL], Nat.le_refl _, Oq.nil _ _, Below.refl _ _⟩
  case round =>
    obtain ⟨m, out, hm, rfl, ho, hol, hown, hb⟩ := hrel
    by_cases hlt : m < l1
    · obtain ⟨b, off, rfl, hr⟩ := ((unhideR HR)).open (by omega)
      obtain ⟨lo, hi, hdr, hd, f1, f2, c0, c1⟩ := hr.at m hlt
      have hmem := G.may_mem (unhideR HI).1 (r := (lo, hi)) (List.mem_of_mem_drop (by rw [hdr]; simp))
      simp only at hmem
      obtain ⟨m0, m1, m2⟩ := hmem
      have HD := hideR (of_take hd)
      have C0 := hideR c0
      have C1 := hideR c1
      clear hdr hd hr f1 f2 c0 c1
      have hown' := hown
      have hb' := hb
      generalize wr = W1 at *
      generalize u3 = v0 at *
      go_wp2_with fail
      go_loopw [3, 9] (fun v i wr => ∃ (j : Nat) (out2 : List (List (Int × Int))), j ≤ 5 ∧ i = .int .i64 j ∧ Hid (out2 = out ++ ofW j (lo, hi)) ∧ out2.length ≤ 135 * m + 27 * j ∧ Hid (Oq wr w1.heap.size v out2) ∧ Below w1.heap.size w1 wr) (fun _ i _ => 5 - (intOf i).toNat)
      case atStart => exact ⟨0, out, Nat.zero_le _, rfl, by show _ = _; rw [ofW_zero, List.append_nil], by omega, hown', hb'⟩
      case round =>
        clear hown hown' hb hb'
        obtain ⟨j, out2, hj, rfl, ho2, hol2, hown2, hb2⟩ := hrel
        by_cases hlt2 : j < 5
        · obtain ⟨x, y, n, r, ⟨n0, n1, n2, n3, n4⟩, cx, cy, c7, cr, hwt⟩ := (unhideR T1).later hb2 (Nat.le_refl _) j hlt2
          have HWT := hideR hwt
          have CR := hideR cr
          have c0 : wr.cell? ⟨b, off + m * 2, none⟩ = some (.int .i64 lo) := by rw [hb2.cell (p := ⟨b, off + m * 2, none⟩) (block_lt' (unhideR C0))]; exact unhideR C0
          have c1 : wr.cell? ⟨b, off + m * 2 + 1, none⟩ = some (.int .i64 hi) := by rw [hb2.cell (p := ⟨b, off + m * 2 + 1, none⟩) (block_lt' (unhideR C1))]; exact unhideR C1
          have i0 : (m : Int) < (l1 : Int) := by omega
          have i1 : (0 : Int) ≤ (m : Int) := by omega
          have hbz : b < wr.heap.size := block_lt' c0
          clear hwt cr
          go_wp2_with fail
          go_region
          have bP : Below wr.heap.size wr (wr.alloc (Obj.cells #[Value.int IntKind.i64 lo, Value.int IntKind.i64 hi] 41)).drew := (Below.new1 _).drew
          have xP : Bx (wr.alloc (Obj.cells #[Value.int IntKind.i64 lo, Value.int IntKind.i64 hi] 41)).drew wr.heap.size lo hi := heap_alloc_new wr _
          have dx := below_cell bP (Nat.le_refl _) cx
          have CY := hideR cy
          have C7 := hideR c7
          clear c0 c1 cx cy c7
          generalize hkp : wr.heap.size = kp at bP xP ⊢
          have HKP := hideR hkp
          have hkp1 : w1.heap.size ≤ kp := by have := hb2.size; omega
          clear hkp
          generalize (wr.alloc (Obj.cells #[Value.int IntKind.i64 lo, Value.int IntKind.i64 hi] 41)).drew = WP at *
          have XP := hideR xP
          have e0 : ∀ d, (WP.drewN d).cell? ⟨kp, 0, none⟩ = some (.int .i64 lo) := fun d => by simpa using xP.c0
          have e1 : ∀ d, (WP.drewN d).cell? ⟨p0, j, none⟩ = some (.int .i64 x) := fun d => by simpa using dx
          have i2 : (j : Int) < 5 := by omega
          have i3 : (0 : Int) ≤ (j : Int) := by omega
          clear xP
          go_wp2_with fail
          go_quiet (fail)
          go_upto_if 59 with fail
          go_cut [] (fun wx => Hid (Bx wx kp (max x lo) hi) ∧ Hid (Below kp wr wx))
          case first =>
            have xq : Bx (WP.drewN nq) kp lo hi := unhideR XP
            have g0 := xq.c0
            have gf := xq.fr 0
            have gx := e1 nq
            have XQ := hideR xq
            clear xq e0 e1
            by_cases hx : lo < x
            · go_wp2_with fail
              go_meet
              case rel => exact ⟨by rw [show max x lo = x by omega]; exact (unhideR XQ).set0 x, ((bP.trans draws_below').setCell (by simp) _)⟩
            · go_wp2_with fail
              go_meet
              case rel => exact ⟨by rw [show max x lo = lo by omega]; exact unhideR XQ, bP.trans draws_below'⟩
          case rest =>
            obtain ⟨xc, bc⟩ := hcut
            clear e0 e1 XP dx bP
            have xc1 := xc.out.c1
            have yc := below_cell bc.out (Nat.le_of_eq (unhideR HKP)) (unhideR CY)
            have e0 : ∀ d, (wc.drewN d).cell? ⟨kp, 1, none⟩ = some (.int .i64 hi) := fun d => by simpa using xc1
            have e1 : ∀ d, (wc.drewN d).cell? ⟨p1, j, none⟩ = some (.int .i64 y) := fun d => by simpa using yc
            generalize wc = W2 at *
            go_wp2_with fail
            go_quiet (fail)
            go_upto_if 71 with fail
            go_cut [] (fun wx => Hid (Bx wx kp (max x lo) (min y hi)) ∧ Hid (Below kp wr wx))
            case first =>
              have xq : Bx (W2.drewN nq) kp (max x lo) hi := xc.out
              have g0 := xq.c1
              have gf := xq.fr 1
              have gx := e1 nq
              have XQ := hideR xq
              clear xq e0 e1
              by_cases hy : y < hi
              · go_wp2_with fail
                go_meet
                case rel => exact ⟨by rw [show min y hi = y by omega]; exact (unhideR XQ).set1 y, ((bc.out.trans draws_below').setCell (by simp) _)⟩
              · go_wp2_with fail
                go_meet
                case rel => exact ⟨by rw [show min y hi = hi by omega]; exact unhideR XQ, bc.out.trans draws_below'⟩
            case rest =>
              obtain ⟨xd, bd⟩ := hcut
              clear e0 e1 xc bc xc1 yc
              have q0 := xd.out.c0
              have q1 := xd.out.c1
              have bdx := bd.out
              by_cases he : min y hi < max x lo
              · have fin : Hid (out2 = out ++ ofW (j + 1) (lo, hi)) := by
                  show _ = _
                  rw [ofW_step (unhideR HWT), pieces_none he, ho2.out]; simp
                have hk2 : Below w1.heap.size w1 wc := hb2.trans (bdx.mono hkp1)
                have hk3 : Hid (Oq wc w1.heap.size u3 out2) := hown2.out.later (by rw [unhideR HKP]; exact bdx)
                clear ho2 hown2
                go_wp2_with fail
                go_roundw
                case rel => exact ⟨j + 1, out2, by omega, by go_num, fin, by omega, hk3, hk2⟩
                case measure => simp [intOf]; omega
              · have HPS := hideR (pieces_some (n := n) (show max x lo ≤ min y hi by omega))
                have HSt := hideR (ofW_step (unhideR HWT) (lo, hi))
                have HPt : Hid (∀ p ∈ Q.piecesL ((x, y), bysOf n) (lo, hi), p.1 ≤ p.2 ∧ Q.Told p) := fun p hp => piece_told (unhideR HWT) hp
                have hX0 : 0 ≤ max x lo := by omega
                have hY0 : min y hi ≤ 1114111 := by omega
                have hXY : max x lo ≤ min y hi := by omega
                generalize max x lo = X at *
                generalize min y hi = Y at *
                generalize Q.piecesL ((x, y), bysOf n) (lo, hi) = P at *
                have CSp := hideR rsplit_any
                have OW0 : Hid (Ow (wc.alloc (boxRg X Y)) wc.heap.size (.slice (some ⟨wc.heap.size, 0, none⟩) 1 1) [(X, Y)]) := ow_box wc 0 X Y _ _ rfl (Nat.le_refl _)
                have SC0 : Hid (Sc [(X, Y)]) := fun p hp => by simp at hp; subst hp; exact ⟨hX0, hXY, hY0⟩
                have c7c : wc.cell? ⟨p7, j, none⟩ = some (.slice (some ⟨r, 0, none⟩) n n) := below_cell bdx (Nat.le_of_eq (unhideR HKP)) (unhideR C7)
                have C7c := hideR c7c
                have CRc : Hid (∀ q, q < n → wc.cell? ⟨r, q, none⟩ = some (.int .i64 ((bysOf n).getD q 0))) := fun q hq => below_cell bdx (Nat.le_of_eq (unhideR HKP)) (unhideR CR q hq)
                have hOc : Hid (Oq wc w1.heap.size u3 out2) := hown2.out.later (by rw [unhideR HKP]; exact bdx)
                have hBc : Below w1.heap.size w1 wc := hb2.trans (bdx.mono hkp1)
                clear hown2 hb2 bdx bd C7 CR c7c xd CY he
                go_wp2_with fail
                clear q0 q1
                generalize hWc : wc = W3 at *
                go_loopw [11, 12] (fun v i wr => ∃ (q : Nat) (K : List (Int × Int)), q ≤ n ∧ i = .int .i64 q ∧ Hid (Ow wr W3.heap.size v K) ∧ Hid (Sc K) ∧ K.length * 3 ^ (n - q) ≤ 27 ∧ Hid (foldS ((bysOf n).drop q) K = P) ∧ Below W3.heap.size W3 wr) (fun _ i _ => n - (intOf i).toNat)
                case atStart =>
                  refine ⟨0, [(X, Y)], Nat.zero_le _, rfl, OW0, SC0, ?_, HPS, Below.new1 _⟩
                  have : n = 0 ∨ n = 1 ∨ n = 2 ∨ n = 3 := by omega
                  rcases this with rfl | rfl | rfl | rfl <;> simp
                case round =>
                  clear OW0 SC0 HPS
                  obtain ⟨q, K, hq, rfl, hOK, hSK, hLK, hFK, hbK⟩ := hrel
                  have c7c := below_cell hbK (Nat.le_refl _) (unhideR C7c)
                  have ij : (j : Int) < 5 := by omega
                  have ij0 : (0 : Int) ≤ (j : Int) := by omega
                  have hK27 : K.length ≤ 27 := by
                    have : n - q = 0 ∨ n - q = 1 ∨ n - q = 2 ∨ n - q = 3 := by omega
                    rcases this with e | e | e | e <;> rw [e] at hLK <;> omega
                  obtain ⟨ka, kc, hkv, hKr⟩ := hOK.out.rs hSK.out.fits
                  have hKm := hKr.hmax
                  have hKc := hKr.hcap
                  unfold maxLen at hKm
                  have HKr := hideR hKr
                  clear hKr
                  by_cases hlt3 : q < n
                  · obtain ⟨hst, hdq⟩ := bys_at n0 hlt3
                    have crq := below_cell hbK (Nat.le_refl _) (unhideR CRc q hlt3)
                    generalize (bysOf n).getD q 0 = Z at *
                    have HZ := hideR hst
                    have HDq := hideR hdq
                    clear hst hdq
                    subst hkv
                    clear hOK
                    generalize hW4 : wr = W4 at *
                    go_wp2_with fail
                    go_loopw [13, 14] (fun v i wr => ∃ (t : Nat) (nx : List (Int × Int)), t ≤ K.length ∧ i = .int .i64 t ∧ Hid (nx = Q.splitL Z (K.take t)) ∧ nx.length ≤ 3 * t ∧ Hid (Ow wr W4.heap.size v nx) ∧ Below W4.heap.size W4 wr) (fun _ i _ => K.length - (intOf i).toNat)
                    case atStart => exact ⟨0, [], Nat.zero_le _, rfl, by show [] = _; simp [Q.splitL], Nat.le_refl _, World.ownsRow_nil _ _ _ _, Below.refl _ _⟩
                    case round =>
                      obtain ⟨t, nx, ht, rfl, hnx, hnl, hOn, hbn⟩ := hrel
                      by_cases hlt4 : t < K.length
                      · obtain ⟨kb, ko, rfl, hKb⟩ := ((unhideR HKr).later hbn (Nat.le_refl _)).open (by omega)
                        obtain ⟨lo', hi', hdr, hd, f1, f2, c0, c1⟩ := hKb.at t hlt4
                        have hm := hSK.out (lo', hi') (List.mem_of_mem_drop (by rw [hdr]; simp))
                        obtain ⟨m0', m1', m2'⟩ := hm
                        simp only at m0' m1' m2'
                        have cl := cut_len (unhideR HZ) m0' m1'
                        have st : Hid (nx ++ Q.cutL Z (lo', hi') = Q.splitL Z (K.take (t + 1))) := by
                          show _ = _
                          rw [split_take hd, hnx.out]
                        have c7d := below_cell hbn (Nat.le_refl _) c7c
                        have crd := below_cell hbn (Nat.le_refl _) crq
                        have CC := hideR (fun W => unhideR CSp Z (unhideR HZ) lo' hi' W m0' m1' m2')
                        generalize Q.cutL Z (lo', hi') = CT at *
                        obtain ⟨i0', hi0, hz0, hz1, hz2⟩ := info_parts infoRg
                        have it : (t : Int) < (K.length : Int) := by omega
                        have iq : (q : Int) < (n : Int) := by omega
                        have hsn := hbn.size
                        clear hdr hd hKb f1 f2 hnx
                        go_wp2_with fail
                        have kbl : kb < W4.heap.size := by
                          obtain ⟨b', off', e', hc', _⟩ := (unhideR HKr).hcell t hlt4
                          injection e' with e'
                          injection e' with e1 e2
                          subst e1
                          exact block_lt' hc'
                        have p7l := block_lt' c7c
                        have rl := block_lt' crq
                        go_region_held3 (fun w' => w'.cell? ⟨kb, ko + t * 2, none⟩ = some (.int .i64 lo') ∧ w'.cell? ⟨kb, ko + t * 2 + 1, none⟩ = some (.int .i64 hi') ∧ w'.cell? ⟨p7, j, none⟩ = some (.slice (some ⟨r, 0, none⟩) n n) ∧ w'.cell? ⟨r, q, none⟩ = some (.int .i64 Z))
                          (first
                            | exact ⟨c0, c1, c7d, crd⟩
                            | exact ⟨below_cell hb5 (Nat.le_refl _) c0, below_cell hb5 (Nat.le_refl _) c1, below_cell hb5 (Nat.le_refl _) c7d, below_cell hb5 (Nat.le_refl _) crd⟩
                            | exact ⟨keepS hown5 hgrow6 (below_cell hb5 (Nat.le_refl _) c0) kbl, keepS hown5 hgrow6 (below_cell hb5 (Nat.le_refl _) c1) kbl, keepS hown5 hgrow6 (below_cell hb5 (Nat.le_refl _) c7d) p7l, keepS hown5 hgrow6 (below_cell hb5 (Nat.le_refl _) crd) rl⟩)
                          (first
                          | (go_at_call 30; refine (unhideR CC _).mono ?_; rintro e w5 ⟨v5, rfl, ho5, hb5⟩; obtain ⟨g5, c5, rfl, hcs5⟩ := ho5.block cl.1; have hown5 := own_later hb5 hOn.out; have hs5 : wr.heap.size ≤ w5.heap.size := hb5.size)
                          | (refine step_append_lies _ rfl _ _ 22 rfl W4.heap.size 41 i0' _ 2 16 Tryd.underlying22 hi0 hz0 hz1 hz2 rfl (by omega) _ _ _ rfl hown5 ⟨g5, 0, none⟩ CT.length c5 (cellsL CT) rfl (cellsL_length CT) hcs5 cellsL_one (by omega) (by unfold maxLen; omega) (by omega) (by omega) _ rfl ?_; intro gg cap6 w6 hown6 hgrow6 hat6 hlt6))
                        go_wp2_with fail
                        have B5 : Below W4.heap.size W4 w5 := hbn.trans ((show Below wr.heap.size wr w5 from (draws_below' (k := 1)).trans hb5).mono hsn)
                        exact ⟨⟨t + 1, nx ++ CT, by omega, by go_num, st, by rw [List.length_append]; omega, by show World.ownsRow _ _ _ _ _ _ _; rw [cellsL_append, List.length_append]; exact hown6, below_grow hown5 B5 (by omega) hgrow6⟩, by simp [intOf]; omega⟩
                      · obtain rfl : t = K.length := by omega
                        have fin : Hid (nx = Q.splitL Z K) := by
                          show _ = _
                          rw [hnx.out, List.take_length]
                        have hsl := split_len (unhideR HZ) hSK.out
                        rw [← fin.out] at hsl
                        have hSn : Hid (Sc nx) := by rw [fin.out]; exact split_sc (unhideR HZ) hSK.out
                        have hFn : Hid (foldS ((bysOf n).drop (q + 1)) nx = P) := by
                          show _ = _
                          rw [← hFK.out, unhideR HDq, fin.out]; rfl
                        have hs4 := hbK.size
                        have hOn' : Hid (Ow wr W3.heap.size u13 nx) := own_mono hOn.out hs4
                        have hbn' : Below W3.heap.size W3 wr := hbK.trans (hbn.mono hs4)
                        have hln : nx.length * 3 ^ (n - (q + 1)) ≤ 27 := by
                          have : n - q = 1 ∨ n - q = 2 ∨ n - q = 3 := by omega
                          rcases this with e | e | e
                          · rw [show n - (q + 1) = 0 by omega]; rw [e] at hLK; omega
                          · rw [show n - (q + 1) = 1 by omega]; rw [e] at hLK; omega
                          · rw [show n - (q + 1) = 2 by omega]; rw [e] at hLK; omega
                        clear hnx fin hsl hOn hbn
                        go_wp2_with fail
                        go_roundw
                        case rel => exact ⟨q + 1, nx, by omega, by go_num, hOn', hSn, hln, hFn, hbn'⟩
                        case measure => simp [intOf]; omega
                  · obtain rfl : q = n := by omega
                    have hKP : K = P := by
                      have := hFK.out
                      rw [List.drop_of_length_le (by rw [bys_len n0]; exact Nat.le_refl _)] at this
                      exact this
                    subst hKP
                    have CPt := hideR rput_bs
                    have hO5 : Hid (Oq wr w1.heap.size u3 out2) := hOc.out.later hbK
                    have hs3 := hBc.size
                    have hB5 : Below w1.heap.size w1 wr := hBc.trans (hbK.mono hs3)
                    have hap : Hid (u11.ownBlock = none ∨ u3.ownBlock ≠ u11.ownBlock) := by
                      rcases hv : u11.ownBlock with _ | g
                      · exact .inl rfl
                      · refine .inr fun e => ?_
                        obtain ⟨us, h1, _⟩ := hOc.out
                        have h2 := (h1.lt g e).2
                        have h3 := (hOK.out.lt g hv).1
                        omega
                    have PF : Hid (∀ r ∈ K, fits r.1 ∧ fits r.2) := hSK.out.fits
                    clear hOc hBc hs3 CRc C7c hFK hLK
                    subst hkv
                    go_wp2_with fail
                    clear c7c HKr
                    generalize hW5 : wr = W5 at *
                    generalize u3 = v1 at *
                    go_loopw [3, 15] (fun v i wr => ∃ (t : Nat) (out3 : List (List (Int × Int))), t ≤ K.length ∧ i = .int .i64 t ∧ Hid (out3 = out2 ++ (K.take t).map Q.seqL) ∧ out3.length ≤ 135 * m + 27 * j + t ∧ Hid (Oq wr w1.heap.size v out3) ∧ Below w1.heap.size w1 wr ∧ Hid (Keeps W5 v1 wr v)) (fun _ i _ => K.length - (intOf i).toNat)
                    case atStart => exact ⟨0, out2, Nat.zero_le _, rfl, by show _ = _; simp, by omega, hO5, hB5, Keeps.refl _ _⟩
                    case round =>
                      clear hO5 hB5
                      obtain ⟨t, out3, ht, rfl, ho3, hol3, hown3, hb3, hK3⟩ := hrel
                      by_cases hlt5 : t < K.length
                      · have hoP := Ow.keeps hK3.out hOK.out hap.out
                        obtain ⟨a4, c4, e4, rs4⟩ := hoP.rs PF.out
                        injection e4 with e5 e6 e7
                        subst e5; subst e7
                        obtain ⟨b6, off6, rfl, hr6⟩ := rs4.open (by omega)
                        obtain ⟨lo', hi', hdr, hd, f1, f2, c0, c1⟩ := hr6.at t hlt5
                        have tp := HPt.out (lo', hi') (List.mem_of_mem_drop (by rw [hdr]; simp))
                        have tl := tp.2.hlen
                        have t1 := hideR (tp.2.hmay lo' (Int.le_refl _) tp.1)
                        have t2 := hideR (tp.2.hmay hi' tp.1 (Int.le_refl _))
                        have t3 := tp.2.hsame
                        have st : Hid (out3 ++ [Q.seqL (lo', hi')] = out2 ++ (K.take (t + 1)).map Q.seqL) := by
                          show _ = _
                          rw [map_take hd, ho3.out, List.append_assoc]
                        have ob : Hid (∀ k, u3.ownBlock = some k → k < wr.heap.size) := fun k hk => by obtain ⟨us, h1, _⟩ := hown3.out; exact (h1.lt k hk).2
                        have D1 := hideR (fun W => unhideR CPt lo' W (unhideR t1))
                        have D2 := hideR (fun W => unhideR CPt hi' W (unhideR t2))
                        have C1' := hideR c1
                        have hby1 := hideR (U.putL_bytes (unhideR t1))
                        have hby2 := hideR (U.putL_bytes (unhideR t2))
                        have hpl := U.putL_len lo'
                        have eSq : Q.seqL (lo', hi') = (U.putL lo').zip (U.putL hi') := rfl
                        rw [eSq] at st tl
                        clear hoP rs4 hr6 hdr hd tp ho3 f1 f2 c1 t1 t2 eSq
                        generalize U.putL lo' = A at *
                        generalize U.putL hi' = B at *
                        obtain ⟨n6, hA⟩ : ∃ n6, A.length = n6 := ⟨_, rfl⟩
                        have hB : B.length = n6 := by omega
                        rw [hA] at D1 hpl
                        rw [hB] at D2
                        have HA := hideR hA
                        have HBl := hideR hB
                        have hzl : (A.zip B).length = n6 := by simp [hA, hB]
                        have HZl := hideR hzl
                        rw [hzl] at tl
                        clear hA hB t3 hzl
                        go_wp2_with fail
                        refine (unhideR D1 _).mono ?_
                        rintro e w6 ⟨k6, rfl, bs6, b6'⟩
                        have c1 := below_cell b6' (Nat.le_refl _) (unhideR C1')
                        have Bs6 := hideR bs6
                        clear bs6 C1' c0
                        go_wp2_with fail
                        refine (unhideR D2 _).mono ?_
                        rintro e w7 ⟨k7, rfl, bs7, b7'⟩
                        have Bs6' := hideR ((unhideR Bs6).later b7' (Nat.le_refl _))
                        have Bs7 := hideR bs7
                        have bz : Below wr.heap.size wr w7 := b6'.trans (b7'.mono b6'.size)
                        clear bs7 b6' b7' c1 Bs6 D1 D2
                        have hb3s := hb3.size
                        have hbzs := bz.size
                        have hOq7 : Hid (Oq w7 w1.heap.size u3 out3) := hown3.out.later bz
                        have hK7 : Hid (Keeps W5 v1 w7 u3) := hK3.out.later bz
                        have hb7 : Below w1.heap.size w1 w7 := hb3.trans (bz.mono hb3s)
                        clear hown3 hK3 hb3 bz
                        generalize hWr : wr = WR at *
                        generalize u3 = v3 at *
                        obtain ⟨i0', hi0, hz0, hz1, hz2⟩ := info_parts infoRg
                        go_wp2_with fail
                        go_loopw [20, 21] (fun v i wr => ∃ (z : Nat), z ≤ n6 ∧ i = .int .i64 z ∧ Hid (Ow wr w7.heap.size v ((A.zip B).take z)) ∧ Below w7.heap.size w7 wr) (fun _ i _ => n6 - (intOf i).toNat)
                        case atStart => exact ⟨0, Nat.zero_le _, rfl, World.ownsRow_nil _ _ _ _, Below.refl _ _⟩
                        case round =>
                          obtain ⟨z, hz, rfl, hOz, hbz⟩ := hrel
                          by_cases hlt6 : z < n6
                          · obtain ⟨q1, q2, qe, T1'⟩ := (unhideR Bs6').open hpl.1
                            simp at qe; obtain ⟨rfl, rfl⟩ := qe
                            obtain ⟨q3, q4, qe, T2'⟩ := (unhideR Bs7).open hpl.1
                            simp at qe; obtain ⟨rfl, rfl⟩ := qe
                            obtain ⟨xa, exa, ba', ca⟩ := T1'.at z hlt6
                            obtain ⟨xb, exb, bb', cb⟩ := T2'.at z hlt6
                            have ca' : wr.cell? ⟨k6, z, none⟩ = some (.int .u8 xa) := by rw [← Nat.zero_add z]; exact below_cell hbz (Nat.le_refl _) ca
                            have cb' : wr.cell? ⟨k7, z, none⟩ = some (.int .u8 xb) := by rw [← Nat.zero_add z]; exact below_cell hbz (Nat.le_refl _) cb
                            have kl6 : k6 < w7.heap.size := block_lt' ca
                            have kl7 : k7 < w7.heap.size := block_lt' cb
                            have zs : Hid ((A.zip B).take z ++ [(xa, xb)] = (A.zip B).take (z + 1)) := by
                              show _ = _
                              have hzz : z < (A.zip B).length := by rw [unhideR HZl]; exact hlt6
                              rw [List.take_succ_eq_append_getElem hzz, List.getElem_zip]
                              have ea := List.getElem?_eq_some_iff.1 exa
                              have eb := List.getElem?_eq_some_iff.1 exb
                              rw [ea.2, eb.2]
                            have zl : ((A.zip B).take z).length = z := by rw [List.length_take, unhideR HZl]; omega
                            have hoz := hOz.out
                            unfold Ow at hoz
                            rw [zl] at hoz
                            have HOz := hideR hoz
                            have HZL := hideR zl
                            obtain ⟨xa0, xa1⟩ := ba'
                            obtain ⟨xb0, xb1⟩ := bb'
                            have wra := wrapI xa (by omega)
                            have wrb := wrapI xb (by omega)
                            have iz : (z : Int) < (n6 : Int) := by omega
                            have hbzS := hbz.size
                            clear T1' T2' ca cb exa exb hOz hoz zl
                            go_wp2_with fail
                            have nk6 : some k6 ≠ u20.ownBlock := fun e => by have := ((unhideR HOz).lt k6 e.symm).1; omega
                            have nk7 : some k7 ≠ u20.ownBlock := fun e => by have := ((unhideR HOz).lt k7 e.symm).1; omega
                            have NK6 := hideR nk6
                            have NK7 := hideR nk7
                            clear nk6 nk7
                            have CA : Hid (∀ o, ((wr.drew).alloc o).cell? ⟨k6, z, none⟩ = some (.int .u8 xa)) := fun o => (World.cell?_alloc_past _ _ _ (block_lt' ca')).trans ca'
                            have CB : Hid (∀ o, ((wr.drew).alloc o).cell? ⟨k7, z, none⟩ = some (.int .u8 xb)) := fun o => (World.cell?_alloc_past _ _ _ (block_lt' cb')).trans cb'
                            have kz6 : k6 < wr.heap.size := block_lt' ca'
                            have kz7 : k7 < wr.heap.size := block_lt' cb'
                            go_region_held3 (fun w' => w'.cell? ⟨k6, z, none⟩ = some (.int .u8 xa) ∧ w'.cell? ⟨k7, z, none⟩ = some (.int .u8 xb))
                              (first | exact sc8 | go_keep)
                              (first
                                | (refine step_append_lies _ rfl _ _ 22 rfl w7.heap.size 41 i0' _ 2 16 Tryd.underlying22 hi0 hz0 hz1 hz2 rfl (by omega) _ _ _ rfl (World.ownsRow.alloc (World.ownsRow.drew (unhideR HOz)) _) _ 1 1 [.int .i64 xa, .int .i64 xb] rfl rfl (new_cells _ _ _ _ (by simp)) (by simp [Value.oneCell']) (by omega) (by unfold maxLen; omega) (by omega) (by simp; omega) _ rfl ?_; intro g8 c8 w8 hown8 hgrow8 hat8 hlt8; have sc8 : w8.cell? ⟨k6, z, none⟩ = some (.int .u8 xa) ∧ w8.cell? ⟨k7, z, none⟩ = some (.int .u8 xb) := ⟨hgrow8.cell (unhideR CA _) (unhideR NK6), hgrow8.cell (unhideR CB _) (unhideR NK7)⟩))
                            go_wp2_with fail
                            have own9 : Hid (Ow w8 w7.heap.size (.slice (some ⟨g8, 0, none⟩) (z + 1) c8) ((A.zip B).take (z + 1))) := by
                              show Ow _ _ _ _
                              rw [← zs.out]
                              unfold Ow
                              rw [cellsL_append, List.length_append, unhideR HZL]
                              exact hown8
                            have b9 : Below w7.heap.size w7 w8 := below_grow (World.ownsRow.alloc (World.ownsRow.drew (unhideR HOz)) _) (hbz.drew.alloc hbzS _) (by simp; omega) hgrow8
                            exact ⟨⟨z + 1, by omega, by go_num, own9, b9⟩, by simp [intOf]; omega⟩
                          · obtain rfl : z = n6 := by omega
                            have ho4 := hOz.out
                            rw [List.take_of_length_le (by rw [unhideR HZl]; exact Nat.le_refl _)] at ho4
                            have tl' : 1 ≤ (A.zip B).length := by rw [unhideR HZl]; exact tl.1
                            have hlt4 := ho4.lt
                            have sf : ∀ r ∈ A.zip B, fits r.1 ∧ fits r.2 := fun r hr => zip_fits (unhideR hby1) (unhideR hby2) hr
                            generalize A.zip B = s4 at *
                            obtain ⟨g4, c5, hv4, hcs⟩ := ho4.block tl'
                            subst hv4
                            have hg4 := hlt4 g4 rfl
                            obtain ⟨a7, c7', e7, rs7⟩ := ho4.rs sf
                            injection e7 with e8 e9 e10
                            subst e8; subst e10
                            obtain ⟨us, o1, o2⟩ := (hOq7.out.later hbz).later (Below.new1 (.cells #[.slice (some ⟨g4, 0, none⟩) s4.length c5] 22))
                            have rs8 := rs7.later (Below.new1 (.cells #[.slice (some ⟨g4, 0, none⟩) s4.length c5] 22)) (Nat.le_refl _)
                            have kk := (hK7.out.later hbz).later (Below.new1 (.cells #[.slice (some ⟨g4, 0, none⟩) s4.length c5] 22))
                            have hne4 : v3.ownBlock ≠ some g4 := fun e => by have := ob.out g4 e; omega
                            have h7s := hb7.size
                            have hbzS := hbz.size
                            have hb8 : Below w1.heap.size w1 (wr.alloc (.cells #[.slice (some ⟨g4, 0, none⟩) s4.length c5] 22)) := (hb7.trans (hbz.mono h7s)).alloc (by omega) _
                            have nw : ∀ (i : Nat) (u : Value), [Value.slice (some ⟨g4, 0, none⟩) s4.length c5][i]? = some u → (wr.alloc (.cells #[.slice (some ⟨g4, 0, none⟩) s4.length c5] 22)).cell? ((⟨wr.heap.size, 0, none⟩ : Addr).add i) = some u :=
                              World.news_of_block (cs := #[.slice (some ⟨g4, 0, none⟩) s4.length c5]) (t := 22) (fr := (0, 0)) (heap_alloc_new wr _)
                            obtain ⟨i9, hi9, hz90, hz91, hz92⟩ := info_parts infoSl
                            have RS8 := hideR rs8
                            have KK := hideR kk
                            have O2 := hideR o2
                            clear hcs rs7 rs8 kk o2 hOq7 hK7 hb7 ho4 hOz hbz sf hlt4 Bs6' Bs7
                            go_wp2_with (at_builtin; refine wpList_append_lies _ rfl _ _ 23 rfl w1.heap.size 22 i9 _ 1 24 Tryd.underlying23 hi9 hz90 hz91 hz92 rfl (by omega) _ _ _ rfl o1 ⟨wr.heap.size, 0, none⟩ 1 1 [.slice (some ⟨g4, 0, none⟩) s4.length c5] rfl rfl nw (by simp [Value.oneCell']) (by omega) (by unfold maxLen; omega) (by omega) (by simp; omega) (wr.heap.size + 1) (by simp) ?_; intro gg cap1 w9 hown9 hgrow9 hat9 hlt9)
                            go_roundw
                            case rel =>
                              refine ⟨t + 1, out3 ++ [s4], by omega, by go_num, st, by rw [List.length_append]; simp only [List.length_cons, List.length_nil]; omega, Oq.snoc (unhideR O2) (by simp; omega) (unhideR RS8) hne4 hown9 hgrow9 hat9 (by simp), below_grow o1 hb8 (by simp; omega) hgrow9, (unhideR KK).step hgrow9 ?_⟩
                              rcases hat9 with e | e
                              · exact .inl e.symm
                              · exact .inr ⟨gg, rfl, by rw [e]; simp⟩
                            case measure => simp [intOf]; omega
                      · obtain rfl : t = K.length := by omega
                        have fin : Hid (out3 = out ++ ofW (j + 1) (lo, hi)) := by
                          show _ = _
                          rw [ho3.out, unhideR HSt, ho2.out, List.take_length, List.append_assoc]
                        clear ho3 HSt ho2
                        go_wp2_with fail
                        go_roundw
                        case rel => exact ⟨j + 1, out3, by omega, by go_num, fin, by omega, hown3, hb3⟩
                        case measure => simp [intOf]; omega
        · obtain rfl : j = 5 := by omega
          have fin : Hid (out2 = Q.ofN (N.take (m + 1))) := by
            show _ = _
            rw [ho2.out, ho.out, ofW_five, unhideR HD]
          clear ho2
          go_wp2_with fail
          go_roundw
          case rel => exact ⟨m + 1, out2, by omega, by go_num, fin, by omega, hown2, hb2⟩
          case measure => simp [intOf]; omega
    · have fin := hideR (show out = Q.ofN N by rw [ho.out, List.take_of_length_le (by omega)])
      clear ho
      go_wp2_with fail
      go_ret
      have e0 := unhideR HP0
      refine ⟨N, _, unhideR HI, rfl, ?_, ?_⟩
      · rw [← unhideR fin]
        exact hown.out.mono (by omega)
      · have hx := (unhideR HB).trans (hb.mono hw1)
        rw [← e0] at hx
        exact hx
end Go.Proofs.YtejipaapbfjooaaDoor
