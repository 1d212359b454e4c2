/- The contracts of seqs.split and (seqs.width).pieces. -/
import Derived.Test.YtejipaapbfjooaaDoorSqCut
namespace Go.Proofs.YtejipaapbfjooaaDoor
open Go.RowKit
set_option linter.unusedVariables false
set_option linter.unusedSimpArgs false

theorem below_grow {B : Nat} {w w2 w1 : World} {e : TypeId} {sz n : Nat} {v : Value} {xs : List Value} (h : w2.ownsRow B e sz v n xs) (hb : Below B w w2) (hB : B ≤ w2.heap.size) (hg : w2.grownBy w1 v.ownBlock) : Below B w w1 :=
  hb.grown hg hB (fun k hk => (h.lt k hk).1)

theorem cellsL_one {l : List (Int × Int)} : ∀ u ∈ cellsL l, u.oneCell' = true := by
  intro u hu
  unfold cellsL at hu
  obtain ⟨r, _, hu⟩ := List.mem_flatMap.1 hu
  simp at hu
  rcases hu with rfl | rfl <;> rfl

/-- what the call has made, where it is not empty: its block -/
theorem Ow.block {w : World} {base : Nat} {v : Value} {l : List (Int × Int)} (h : Ow w base v l) (hl : 1 ≤ l.length) : ∃ g cap, v = .slice (some ⟨g, 0, none⟩) l.length cap ∧ (∀ (j : Nat) (u : Value), (cellsL l)[j]? = some u → w.cell? ((⟨g, 0, none⟩ : Addr).add j) = some u) := by
  rcases h.2 with ⟨rfl, h0⟩ | ⟨g, cap, cur, rfl, hb, hg, hn, hm, hs, ht⟩
  · omega
  · exact ⟨g, cap, rfl, fun j u hj => World.ownsRow.cells h (g := g) rfl j u hj⟩

theorem cut_len {k : Int} (hk : Q.step k) {lo hi : Int} (h0 : 0 ≤ lo) (h1 : lo ≤ hi) : 1 ≤ (Q.cutL k (lo, hi)).length ∧ (Q.cutL k (lo, hi)).length ≤ 3 := by
  constructor
  · have := Q.cut_has hk (r := (lo, hi)) h0 h1 lo
    simp only [decide_eq_true (Int.le_refl lo), decide_eq_true h1] at this
    cases hc : Q.cutL k (lo, hi) with
    | nil => rw [hc, G.hasB_nil] at this; cases this
    | cons p t => simp
  · unfold Q.cutL
    split
    · simp
    · exact Nat.le_trans (List.length_filter_le _ _) (by simp)

theorem split_take {k : Int} {L : List (Int × Int)} {i : Nat} {lo hi : Int} (h : L.take (i + 1) = L.take i ++ [(lo, hi)]) : Q.splitL k (L.take (i + 1)) = Q.splitL k (L.take i) ++ Q.cutL k (lo, hi) := by
  rw [h]; simp [Q.splitL]

/-- ranges of the numbers from 0 to the greatest scalar, none empty -/
def Sc (L : List (Int × Int)) : Prop := ∀ r ∈ L, 0 ≤ r.1 ∧ r.1 ≤ r.2 ∧ r.2 ≤ 1114111
theorem Sc.fits {L : List (Int × Int)} (h : Sc L) : ∀ r ∈ L, fits r.1 ∧ fits r.2 := fun r hr => by
  have := h r hr
  unfold Go.Proofs.YtejipaapbfjooaaDoor.fits; omega

set_option maxRecDepth 20000 in
set_option maxHeartbeats 1000000 in
theorem split_any (k : Int) (hk : Q.step k) (a : Option Addr) (len cap : Nat) (L : List (Int × Int)) (w : World) (h : Rs w a len cap L) (hin : Sc L) (hs : len ≤ 100000) :
    Calls Tryd.prog 49 #[.int .i64 (bitsOf k), .slice a len cap] w fun e w' => ∃ v, e = .returned v ∧ Ow w' w.heap.size v (Q.splitL k L) ∧ Below w.heap.size w w' := by
  have hl := h.hlen
  have hmax := h.hmax
  have hcap := h.hcap
  unfold maxLen at hmax
  obtain ⟨i0, hi0, hz0, hz1, hz2⟩ := info_parts infoRg
  have C := hideR (fun lo hi W h0 h1 h2 => cut_any k hk lo hi W h0 h1 h2)
  have HK := hideR hk
  have HI := hideR hin
  clear hin hk
  generalize bitsOf k = bt at C ⊢
  go_enter Tryd.func49, Tryd.ntmps49
  go_wp2_with fail
  go_loopw [5, 10] (fun v i wr => ∃ (n : Nat) (out : List (Int × Int)), n ≤ len ∧ i = .int .i64 n ∧ Hid (out = Q.splitL k (L.take n)) ∧ out.length ≤ 3 * n ∧ wr.ownsRow w.heap.size 41 2 v out.length (cellsL out) ∧ Below w.heap.size w wr) (fun _ i _ => len - (intOf i).toNat)
  case atStart => exact ⟨0, [], Nat.zero_le _, rfl, by show [] = _; simp [Q.splitL], Nat.le_refl _, World.ownsRow_nil _ _ _ _, Below.refl _ _⟩
  case round =>
    obtain ⟨n, out, hn, rfl, ho, hol, hown, hb⟩ := hrel
    by_cases hlt : n < len
    · obtain ⟨b, off, rfl, hr⟩ := (h.later hb (Nat.le_refl _)).open (by omega)
      obtain ⟨lo, hi, hdr, hd, f1, f2, c0, c1⟩ := hr.at n hlt
      have hm := unhideR HI (lo, hi) (List.mem_of_mem_drop (by rw [hdr]; simp))
      obtain ⟨m0, m1, m2⟩ := hm
      simp only at m0 m1 m2
      have cl := cut_len (unhideR HK) m0 m1
      have st : Hid (out ++ Q.cutL k (lo, hi) = Q.splitL k (L.take (n + 1))) := by
        show _ = _
        rw [split_take hd, ho.out]
      clear hdr hd hr ho
      generalize hX : Q.cutL k (lo, hi) = X at st cl
      have HX := hideR hX
      clear hX
      go_wp2_with fail
      refine (unhideR C lo hi _ m0 m1 m2).mono ?_
      rintro e w1 ⟨v1, rfl, ho1, hb1⟩
      rw [unhideR HX] at ho1
      obtain ⟨g, cap1, rfl, hcs⟩ := ho1.block cl.1
      have hown' := own_later hb1 (hown.alloc _)
      simp only [World.size_alloc] at hb1
      have hs1 := hb1.size
      simp only [World.size_alloc] at hs1
      have hbs := hb.size
      have B1 : Below w.heap.size w w1 := hb.trans (((Below.new1 _).mono hb.size).trans (hb1.mono (by omega)))
      clear hb1 hown ho1
      go_wp2_with (at_builtin; refine wpList_append_lies _ rfl _ _ 22 rfl w.heap.size 41 i0 _ 2 16 Tryd.underlying22 hi0 hz0 hz1 hz2 rfl (by omega) _ _ _ rfl hown' ⟨g, 0, none⟩ X.length cap1 (cellsL X) rfl (cellsL_length X) hcs cellsL_one (by omega) (by unfold maxLen; omega) (by omega) (by omega) _ rfl ?_; intro gg cap2 w2 hown1 hgrow hat hlt1)
      go_roundw
      case rel => exact ⟨n + 1, out ++ X, by omega, by go_num, st, by rw [List.length_append]; omega, by rw [cellsL_append, List.length_append]; exact hown1, below_grow hown' B1 (by omega) hgrow⟩
      case measure => simp [intOf]; omega
    · have fin : Hid (out = Q.splitL k L) := by
        show _ = _
        rw [ho.out, List.take_of_length_le (by omega)]
      clear ho
      go_wp2_with fail
      go_ret
      exact ⟨_, rfl, by rw [← fin.out]; exact hown, hb⟩

/-- the answer is a list, which lies somewhere -/
def Li (w : World) (L : List (Int × Int)) (e : Ending) (w' : World) : Prop := ∃ a cap, e = .returned (.slice a L.length cap) ∧ Rs w' a L.length cap L ∧ Below w.heap.size w w'
theorem Li.of {w w' : World} {v : Value} {L : List (Int × Int)} (ho : Ow w' w.heap.size v L) (hf : Sc L) (hb : Below w.heap.size w w') : Li w L (.returned v) w' := by
  obtain ⟨a, cap, rfl, h⟩ := ho.rs hf.fits
  exact ⟨a, cap, rfl, h, hb⟩

theorem split_sc {k : Int} (hk : Q.step k) {L : List (Int × Int)} (h : Sc L) : Sc (Q.splitL k L) := by
  intro p hp
  obtain ⟨r, hr, hp⟩ := List.mem_flatMap.1 hp
  have := h r hr
  have h3 := Q.asc_mem (Q.cut_asc hk (r := r) this.1 this.2.1) hp
  omega
theorem split_len {k : Int} (hk : Q.step k) {L : List (Int × Int)} (h : Sc L) : (Q.splitL k L).length ≤ 3 * L.length := by
  induction L with
  | nil => simp [Q.splitL]
  | cons r t ih =>
    have i := ih fun p hp => h p (List.mem_cons_of_mem _ hp)
    have hr := h r List.mem_cons_self
    have c := (cut_len hk (lo := r.1) (hi := r.2) hr.1 hr.2.1).2
    have e : Q.splitL k (r :: t) = Q.cutL k r ++ Q.splitL k t := by simp [Q.splitL]
    rw [e, List.length_append, List.length_cons]
    have : (Q.cutL k r).length ≤ 3 := c
    omega

/-- where those of as many bytes behind the first are split -/
def bysOf : Nat → List Int
  | 0 => []
  | 1 => [64]
  | 2 => [4096, 64]
  | _ => [262144, 4096, 64]

theorem clip_sc {x y lo hi : Int} (hx : 0 ≤ x) (hy : y ≤ 1114111) : Sc (Q.clipW (x, y) (lo, hi)) := by
  intro p hp
  have := Q.asc_mem (Q.clip_asc (x, y) (lo, hi)) hp
  simp only at this
  omega
theorem clip_len (x y : Int × Int) : (Q.clipW x y).length ≤ 1 := by unfold Q.clipW; split <;> simp
theorem clip_is {x y lo hi : Int} (hx : 0 ≤ x) (hy : y ≤ 1114111) : G.Is (Q.clipW (x, y) (lo, hi)) (fun n => nrm [(x, y)] n && nrm [(lo, hi)] n) := by
  constructor
  · unfold Q.clipW
    split
    · next c =>
      show G.mayFrom 0 _ = true
      rw [G.mayFrom_one]
      simp only at *
      omega
    · rfl
  · intro n
    rw [Q.clip_has]
    unfold nrm G.dom
    dsimp only
    rw [G.hasB_one, G.hasB_one, Bool.eq_iff_iff]
    simp only [Bool.and_eq_true, decide_eq_true_eq]
    omega

/-- the answer is a list that the call has made -/
def LiO (w : World) (L : List (Int × Int)) (e : Ending) (w' : World) : Prop := ∃ v, e = .returned v ∧ Ow w' w.heap.size v L ∧ Below w.heap.size w w'
theorem split6_any (a : Option Addr) (len cap : Nat) (L : List (Int × Int)) (w : World) (h : Rs w a len cap L) (hin : Sc L) (hs : len ≤ 100000) :
    Calls Tryd.prog 49 #[.int .i64 6, .slice a len cap] w (LiO w (Q.splitL 64 L)) := split_any 64 Q.st64 a len cap L w h hin hs
theorem split12_any (a : Option Addr) (len cap : Nat) (L : List (Int × Int)) (w : World) (h : Rs w a len cap L) (hin : Sc L) (hs : len ≤ 100000) :
    Calls Tryd.prog 49 #[.int .i64 12, .slice a len cap] w (LiO w (Q.splitL 4096 L)) := split_any 4096 Q.st4096 a len cap L w h hin hs
theorem split18_any (a : Option Addr) (len cap : Nat) (L : List (Int × Int)) (w : World) (h : Rs w a len cap L) (hin : Sc L) (hs : len ≤ 100000) :
    Calls Tryd.prog 49 #[.int .i64 18, .slice a len cap] w (LiO w (Q.splitL 262144 L)) := split_any 262144 Q.st262144 a len cap L w h hin hs

theorem cell_4 (w : World) (c : Array Value) (t : TypeId) (o1 o2 o3 : Obj) (i : Nat) : ((((w.alloc (.cells c t)).alloc o1).alloc o2).alloc o3).cell? ⟨w.heap.size, i, none⟩ = c[i]? := by
  have h1 : w.heap.size < (w.alloc (.cells c t)).heap.size := by simp
  have h2 : w.heap.size < ((w.alloc (.cells c t)).alloc o1).heap.size := by simp; omega
  have h3 : w.heap.size < (((w.alloc (.cells c t)).alloc o1).alloc o2).heap.size := by simp; omega
  exact (World.cell?_alloc_past _ _ _ h3).trans ((World.cell?_alloc_past _ _ _ h2).trans ((World.cell?_alloc_past _ _ _ h1).trans (World.cell?_alloc_at _ _ _ _ rfl)))

def foldS (ks : List Int) (L : List (Int × Int)) : List (Int × Int) := ks.foldl (fun l k => Q.splitL k l) L

set_option maxRecDepth 20000 in
set_option maxHeartbeats 1000000 in
theorem pieces_any (x y : Int) (n : Nat) (hn : n ≤ 3) (hx : 0 ≤ x) (hx' : x ≤ 1114111) (hy0 : 0 ≤ y) (hy : y ≤ 1114111) (lo hi : Int) (h0 : 0 ≤ lo) (h1 : lo ≤ hi) (h2 : hi ≤ 1114111) (w : World) :
    Calls Tryd.prog 27 #[.agg #[.int .i64 x, .int .i64 y, .int .i64 (n + 1)], .agg #[.int .i64 lo, .int .i64 hi]] w fun e w' => LiO w (Q.piecesL ((x, y), bysOf n) (lo, hi)) e w' ∧ (Q.piecesL ((x, y), bysOf n) (lo, hi)).length ≤ 27 := by
  have C1 := hideR (fun a b W ha hb => rgBoth_own a 1 1 [(x, y)] b 1 1 [(lo, hi)] W ha hb (by omega) (by omega))
  have S6 := hideR split6_any
  have S12 := hideR split12_any
  have S18 := hideR split18_any
  have HF : Hid (foldS (bysOf n) (Q.clipW (x, y) (lo, hi)) = Q.piecesL ((x, y), bysOf n) (lo, hi)) := rfl
  have CI : Hid (G.Is (Q.clipW (x, y) (lo, hi)) (fun n => nrm [(x, y)] n && nrm [(lo, hi)] n)) := clip_is hx hy
  have CS : Hid (Sc (Q.clipW (x, y) (lo, hi))) := clip_sc hx hy
  have CL : (Q.clipW (x, y) (lo, hi)).length ≤ 1 := clip_len _ _
  generalize Q.clipW (x, y) (lo, hi) = K at HF CI CS CL
  generalize Q.piecesL ((x, y), bysOf n) (lo, hi) = R at HF ⊢
  have fx : fits x := by unfold fits; omega
  have fy : fits y := by unfold fits; omega
  have fl : fits lo := by unfold fits; omega
  have fh : fits hi := by unfold fits; omega
  go_enter Tryd.func27, Tryd.ntmps27
  go_wp2_with fail
  refine (unhideR C1 _ _ _ ((Rs.single _ _ _ fx fy _ (by simp)).later (Below.new1 _) (Nat.le_refl _)) (Rs.single _ _ _ fl fh _ (by simp))).mono ?_
  rintro e w1 ⟨v1, A1, rfl, r1, i1, b1⟩
  obtain rfl : A1 = K := i1.unique (unhideR CI) fun _ => rfl
  have hs1 := b1.size
  simp only [World.size_alloc] at hs1 b1 r1
  have c2 : w1.cell? ⟨w.heap.size, 2, none⟩ = some (.int .i64 (n + 1)) := by
    rw [b1.cell (by simp; omega), cell_4]
    rfl
  have B1 : Below w.heap.size w w1 := ((((Below.new1 _).alloc (by simp) _).alloc (by simp; omega) _).alloc (by simp; omega) _).trans (b1.mono (by omega))
  have r1' : Ow w1 w.heap.size v1 A1 := own_mono r1 (by omega)
  clear i1 b1 C1 CI fx fy fl fh h0 h1 h2 hs1 r1
  have hnb : 1 ≤ (n : Int) + 1 ∧ (n : Int) + 1 ≤ 4 := by omega
  go_wp2_with fail
  go_loopw [5, 6] (fun v i wr => ∃ (m : Nat) (L : List (Int × Int)), m ≤ 3 ∧ i = .int .i64 (6 * m) ∧ Hid (Ow wr w.heap.size v L) ∧ Hid (Sc L) ∧ L.length * 3 ^ m ≤ 27 ∧ Hid (foldS (bysOf m) L = R) ∧ Below w.heap.size w wr) (fun _ i _ => (intOf i).toNat)
  case atStart =>
    refine ⟨n, A1, hn, ?_, r1', CS, ?_, HF, B1⟩
    · rfl
    · have : n = 0 ∨ n = 1 ∨ n = 2 ∨ n = 3 := by omega
      rcases this with rfl | rfl | rfl | rfl <;> omega
  case round =>
    clear HF CS CL r1' B1 c2
    obtain ⟨m, L, hm, rfl, hR, hS, hL, hF, hb⟩ := hrel
    have hm4 : m = 0 ∨ m = 1 ∨ m = 2 ∨ m = 3 := by omega
    obtain ⟨a, cap, hv, hq⟩ := hR.out.rs hS.out.fits
    have hR' : Hid (Rs wr a L.length cap L) := hq
    clear hq
    have hbs := hb.size
    rcases hm4 with rfl | rfl | rfl | rfl
    · go_wp2_with fail
      go_ret
      obtain rfl : L = R := hF.out
      exact ⟨⟨_, rfl, hR.out, hb⟩, by omega⟩
    · clear hR
      subst hv
      go_wp2_with fail
      refine (unhideR S6 a L.length cap L _ hR'.out hS.out (by omega)).mono ?_
      rintro e w2 ⟨v2, rfl, r2, b2⟩
      go_wp2_with fail
      go_roundw
      case rel => exact ⟨0, Q.splitL 64 L, by omega, rfl, own_mono r2 hbs, split_sc Q.st64 hS.out, by have := split_len Q.st64 hS.out; omega, hF, hb.trans (b2.mono hb.size)⟩
      case measure => simp [intOf]
    · clear hR
      subst hv
      go_wp2_with fail
      refine (unhideR S12 a L.length cap L _ hR'.out hS.out (by omega)).mono ?_
      rintro e w2 ⟨v2, rfl, r2, b2⟩
      go_wp2_with fail
      go_roundw
      case rel => exact ⟨1, Q.splitL 4096 L, by omega, rfl, own_mono r2 hbs, split_sc Q.st4096 hS.out, by have := split_len Q.st4096 hS.out; omega, hF, hb.trans (b2.mono hb.size)⟩
      case measure => simp [intOf]
    · clear hR
      subst hv
      go_wp2_with fail
      refine (unhideR S18 a L.length cap L _ hR'.out hS.out (by omega)).mono ?_
      rintro e w2 ⟨v2, rfl, r2, b2⟩
      go_wp2_with fail
      go_roundw
      case rel => exact ⟨2, Q.splitL 262144 L, by omega, rfl, own_mono r2 hbs, split_sc Q.st262144 hS.out, by have := split_len Q.st262144 hS.out; omega, hF, hb.trans (b2.mono hb.size)⟩
      case measure => simp [intOf]

end Go.Proofs.YtejipaapbfjooaaDoor
