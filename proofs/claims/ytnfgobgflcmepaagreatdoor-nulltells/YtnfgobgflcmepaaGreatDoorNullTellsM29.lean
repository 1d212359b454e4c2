/- Parts of the proof of NullTells that stand ahead of it (29: RgSets, RgRefOf, RgRefMay). -/
import Derived.Test.YtnfgobgflcmepaaGreatDoorNullTellsM27
import Derived.Test.YtnfgobgflcmepaaGreatDoorNullTellsM17
import Derived.Deep.AppendLies
import Derived.Test.YtnfgobgflcmepaaGreatDoorNullTellsM8
set_option linter.unusedVariables false
set_option linter.unusedSimpArgs false
set_option maxRecDepth 20000
set_option maxHeartbeats 16000000
namespace Go.Proofs.YtnfgobgflcmepaaGreatDoor
open Go.RowKit Go.Shelf
def An (w : World) (p : Int → Bool) (e : Ending) (w' : World) : Prop := ∃ a len cap out, e = .returned (.slice a len cap) ∧ Rs w' a len cap out ∧ G.Is out p ∧ Below w.heap.size w w'
theorem may_fits {out : List (Int × Int)} (h : G.zQ out = true) : ∀ r ∈ out, zW r.1 ∧ zW r.2 := fun r hr => by
 have := G.YX h hr
 unfold zW; omega
theorem An.of {w w' : World} {p : Int → Bool} {v : Value} {out : List (Int × Int)} (ho : Ow w' w.heap.size v out) (hi : G.Is out p) (hb : Below w.heap.size w w') : An w p (.returned v) w' := by
 obtain ⟨a, cap, rfl, hr⟩ := ho.rs (may_fits hi.1)
 exact ⟨a, _, cap, out, rfl, hr, hi, hb⟩
def AnO (w : World) (p : Int → Bool) (e : Ending) (w' : World) : Prop := ∃ v out, e = .returned v ∧ Ow w' w.heap.size v out ∧ G.Is out p ∧ Below w.heap.size w w'
theorem AnO.an {w w' : World} {p : Int → Bool} {e : Ending} (h : AnO w p e w') : An w p e w' := by
 obtain ⟨v, out, rfl, ho, hi, hb⟩ := h
 exact An.of ho hi hb
theorem AnO.congr {w w' : World} {p q : Int → Bool} {e : Ending} (h : AnO w p e w') (hq : ∀ n, p n = q n) : AnO w q e w' := by
 obtain ⟨v, out, he, ho, hi, hb⟩ := h
 exact ⟨v, out, he, ho, hi.congr hq, hb⟩
theorem An.congr {w w' : World} {p q : Int → Bool} {e : Ending} (h : An w p e w') (hq : ∀ n, p n = q n) : An w q e w' := by
 obtain ⟨a, len, cap, out, h1, h2, h3, h4⟩ := h
 exact ⟨a, len, cap, out, h1, h2, h3.congr hq, h4⟩
def nrm (l : List (Int × Int)) (n : Int) : Bool := G.dom n && G.hasB l n
theorem normAn (a : Option Addr) (len cap : Nat) (l : List (Int × Int)) (w : World) (h : Rs w a len cap l) (hs : len ≤ 1000000) :
  Calls Tryz.prog 157 #[.slice a len cap] w (An w (nrm l)) := by
 refine (norm_any a len cap l w h hs).mono ?_
 rintro e w' ⟨v, out, rfl, ho, hi, hb⟩
 exact An.of ho hi hb
theorem Rs.put {w : World} {a : Option Addr} {len cap : Nat} {l : List (Int × Int)} (h : Rs w a len cap l) {p : Addr} {x : Option Addr} {y z : Nat} (hp : w.cell? p = some (.slice x y z)) {v : Value} : Rs (w.setCell p v) a len cap l := by
 refine ⟨h.hlen, h.hcap, h.hmax, h.hfit, fun i hi => ?_⟩
 obtain ⟨b, off, ha, h1, h2⟩ := h.hcell i hi
 refine ⟨b, off, ha, ?_, ?_⟩
 ·rw [World.cell?_setCell_other _ _ _ _ (fun e => by rw [← e, hp] at h1; cases h1)]; exact h1
 ·rw [World.cell?_setCell_other _ _ _ _ (fun e => by rw [← e, hp] at h2; cases h2)]; exact h2
theorem pairOf_any (a : Option Addr) (la ca : Nat) (A : List (Int × Int)) (b : Option Addr) (lb cb : Nat) (B : List (Int × Int)) (w : World) (ha : Rs w a la ca A) (hb : Rs w b lb cb B) (sa : la ≤ 1000000) (sb : lb ≤ 1000000) :
  Calls Tryz.prog 195 #[.slice a la ca, .slice b lb cb] w fun e w' => ∃ a' la' ca' A' b' lb' cb' B', e = .returned (.agg #[.slice a' la' ca', .slice b' lb' cb']) ∧ Pr w' a' la' ca' A' b' lb' cb' B' ∧ (∀ n, G.hasB A' n = nrm A n) ∧ (∀ n, G.hasB B' n = nrm B n) ∧ Below w.heap.size w w' := by
 have C1 := zx (fun (W : World) (hW : Below w.heap.size w W) => normAn a la ca A W (ha.later hW (Nat.le_refl _)) sa)
 have C2 := zx (fun (W : World) (hW : Below w.heap.size w W) => normAn b lb cb B W (hb.later hW (Nat.le_refl _)) sb)
 clear ha hb
 go_enter Tryz.func195, Tryz.ntmps195
 go_wp2_with fail
 refine (zy C1 _ (Below.new1 _)).mono ?_
 rintro e w1 ⟨a1, l1, k1, A1, rfl, r1, i1, b1⟩
 have B1 : Below w.heap.size w w1 := (Below.new1 _).trans (b1.mono (by simp))
 have i1' := zx i1
 clear i1
 go_wp2_with fail
 refine (zy C2 _ B1).mono ?_
 rintro e w2 ⟨a2, l2, k2, A2, rfl, r2, i2, b2⟩
 have i2' := zx i2
 clear i2 C1 C2
 simp only [World.size_alloc] at b1
 have s1 := b1.size
 simp only [World.size_alloc] at s1
 have hc : w2.heap[w.heap.size]? = some (.cells #[.slice none 0 0, .slice none 0 0] 234) :=
  (b2.block _ (by omega)).trans ((b1.block _ (by omega)).trans (World.alloc_heap_new w _))
 have q0 : w2.cell? ⟨w.heap.size, 0, none⟩ = some (.slice none 0 0) := by simp [World.cell?, hc]
 have q1 : w2.cell? ⟨w.heap.size, 1, none⟩ = some (.slice none 0 0) := by simp [World.cell?, hc]
 have q0f : w2.frozen? ⟨w.heap.size, 0, none⟩ = false := by simp [World.frozen?, hc]
 have q1f : w2.frozen? ⟨w.heap.size, 1, none⟩ = false := by simp [World.frozen?, hc]
 have R1 := r1.later b2 (Nat.le_refl _)
 have B2 : Below w.heap.size w w2 := B1.trans (b2.mono (by omega))
 clear r1 b1 b2 hc
 go_wp2_with fail
 have g0 : ((w2.setCell ⟨w.heap.size, 0, none⟩ (.slice a1 l1 k1)).setCell ⟨w.heap.size, 1, none⟩ (.slice a2 l2 k2)).cell? ⟨w.heap.size, 0, none⟩ = some (.slice a1 l1 k1) := by
  rw [World.cell?_setCell_other _ _ _ _ (by simp)]; exact World.cell?_setCell_same _ _ _ q0
 have g1' : (w2.setCell ⟨w.heap.size, 0, none⟩ (.slice a1 l1 k1)).cell? ⟨w.heap.size, 1, none⟩ = some (.slice none 0 0) := by
  rw [World.cell?_setCell_other _ _ _ _ (by simp)]; exact q1
 have g1 : ((w2.setCell ⟨w.heap.size, 0, none⟩ (.slice a1 l1 k1)).setCell ⟨w.heap.size, 1, none⟩ (.slice a2 l2 k2)).cell? ⟨w.heap.size, 1, none⟩ = some (.slice a2 l2 k2) :=
  World.cell?_setCell_same _ _ _ g1'
 refine bodyPost_ret (v := .agg #[.slice a1 l1 k1, .slice a2 l2 k2]) (by simp [results, Tryz.results195, go_sem, g0, g1]) rfl ?_
 exact ⟨a1, l1, k1, A1, a2, l2, k2, A2, rfl, ⟨(R1.put q0).put g1', (r2.put q0).put g1', (zy i1').1, (zy i2').1⟩, (zy i1').2, (zy i2').2, (B2.setCell (by simp) _).setCell (by simp) _⟩
theorem rgLessO_any (a : Option Addr) (la ca : Nat) (A : List (Int × Int)) (b : Option Addr) (lb cb : Nat) (B : List (Int × Int)) (w : World) (ha : Rs w a la ca A) (hb : Rs w b lb cb B) (sa : la ≤ 1000000) (sb : lb ≤ 1000000) :
  Calls Tryz.prog 159 #[.slice a la ca, .slice b lb cb] w (AnO w fun n => nrm A n && !nrm B n) := by
 have C1 := zx (pairOf_any a la ca A b lb cb B w ha hb sa sb)
 have hmf : ∀ (fn : Fn) (first cap : Array Value) (w : World), (Instr.makeFunc fn first cap).run Tryz.prog w = .ok (.func fn first cap) w := fun _ _ _ _ => rfl
 clear ha hb
 go_enter Tryz.func159, Tryz.ntmps159
 go_wp2_with fail
 refine (zy C1).mono ?_
 rintro e w1 ⟨a1, l1, k1, A1, b1, m1, j1, B1, rfl, hp, e1, e2, bw⟩
 have E1 := zx e1
 have E2 := zx e2
 have Bw := zx bw
 have M1 := zx (G.merge_is hp.ma hp.mb (fun x y => x && !y) rfl)
 have C2 := zx (fun (W : World) (hW : Below w1.heap.size w1 W) => merge_any 197 (fun n => (fun x y => x && !y) (G.hasB A1 n) (G.hasB B1 n)) a1 l1 k1 A1 b1 m1 j1 B1 W (hp.later hW (Nat.le_refl _)) (enters_of Tryz.func197 (by kernel_rfl) rfl) (fun n W' h' => less_any a1 l1 k1 A1 b1 m1 j1 B1 n W' h'))
 clear e1 e2 bw C1 hp
 go_wp2_with fail
 refine (zy C2 _ (Below.new1 _)).mono ?_
 rintro e w2 ⟨v, rfl, ho, hb2⟩
 clear C2
 go_wp2_with fail
 go_ret
 have s1 := (zy Bw).size
 simp only [World.size_alloc] at ho hb2
 refine AnO.congr ⟨_, _, rfl, own_mono ho (by omega), zy M1, ((zy Bw).trans (((Below.new1 _).mono s1).trans (hb2.mono (by omega))))⟩ fun n => ?_
 simp only [zy E1 n, zy E2 n]
theorem rgLess_any (a : Option Addr) (la ca : Nat) (A : List (Int × Int)) (b : Option Addr) (lb cb : Nat) (B : List (Int × Int)) (w : World) (ha : Rs w a la ca A) (hb : Rs w b lb cb B) (sa : la ≤ 1000000) (sb : lb ≤ 1000000) :
  Calls Tryz.prog 159 #[.slice a la ca, .slice b lb cb] w (An w fun n => nrm A n && !nrm B n) := (rgLessO_any a la ca A b lb cb B w ha hb sa sb).mono fun _ _ h => h.an
theorem Rs.single (w : World) (lo hi : Int) (f1 : zW lo) (f2 : zW hi) (n : Nat) (hn : n = w.heap.size) : Rs (w.alloc (boxRg lo hi)) (some ⟨n, 0, none⟩) 1 1 [(lo, hi)] := by
 subst hn
 refine ⟨rfl, Nat.le_refl _, by decide, fun r hr => by simp at hr; subst hr; exact ⟨f1, f2⟩, fun i hi => ⟨_, _, rfl, ?_⟩⟩
 have : i = 0 := by omega
 subst this
 exact ⟨by rw [World.cell?_alloc_at _ _ _ _ rfl]; rfl, by rw [World.cell?_alloc_at _ _ _ _ rfl]; rfl⟩
def notP (l : List (Int × Int)) (high n : Int) : Bool := nrm [(0, high)] n && !nrm l n
theorem rgNot_any (a : Option Addr) (la ca : Nat) (A : List (Int × Int)) (high : Int) (w : World) (ha : Rs w a la ca A) (sa : la ≤ 1000000) (hh : zW high) :
  Calls Tryz.prog 158 #[.slice a la ca, .int .i64 high] w (An w (notP A high)) := by
 have C1 := zx (rgLess_any (some ⟨w.heap.size, 0, none⟩) 1 1 [(0, high)] a la ca A (w.alloc (boxRg 0 high)) (Rs.single w 0 high (by unfold zW; omega) hh _ rfl) (ha.later (Below.new1 _) (Nat.le_refl _)) (by omega) sa)
 clear ha
 go_enter Tryz.func158, Tryz.ntmps158
 go_wp2_with fail
 refine (zy C1).mono ?_
 rintro e w1 ⟨a1, l1, k1, A1, rfl, r1, i1, b1⟩
 have i1' := zx i1
 clear i1 C1
 go_wp2_with fail
 go_ret
 simp only [World.size_alloc] at b1
 exact ⟨a1, l1, k1, A1, rfl, r1, zy i1', (Below.new1 _).trans (b1.mono (by omega))⟩
theorem may_take {l : List (Int × Int)} (h : G.zQ l = true) (k : Nat) : G.zQ (l.take k) = true := by
 have e : l = l.take k ++ l.drop k := (List.take_append_drop k l).symm
 unfold G.zQ at *
 rw [e, G.Zo] at h
 exact h.1
end Go.Proofs.YtnfgobgflcmepaaGreatDoor
namespace Go.Proofs.YtnfgobgflcmepaaGreatDoor
open Go.RowKit
structure OI (p : Int → Bool) (n : Int) (out : List (Int × Int)) : Prop where
 may : G.zQ out = true
 has : ∀ m, G.hasB out m = (decide (0 ≤ m) && decide (m < n) && p m)
 last : ∀ o x y, out = o ++ [(x, y)] → y ≤ n - 1
theorem OI.skip {p : Int → Bool} {n next : Int} {out : List (Int × Int)} (h : OI p n out) (hn : n < next) (hf : ∀ m, n ≤ m → m < next → p m = p n) (hp : p n = false) : OI p next out := by
 refine ⟨h.may, fun m => ?_, fun o x y e => by have := h.last o x y e; omega⟩
 rw [h.has]
 by_cases c1 : m < n
 ·simp [c1, show m < next by omega]
 ·by_cases c2 : m < next
  ·rw [hf m (by omega) c2, hp]; simp
  ·simp [c1, c2]
theorem OI.wide {p : Int → Bool} {n next z : Int} {o : List (Int × Int)} {x y : Int} (hz : z = next - 1) (h : OI p n (o ++ [(x, y)])) (hy : y = n - 1) (h0 : 0 ≤ n) (hn : n < next) (h1 : next ≤ 1114112) (hf : ∀ m, n ≤ m → m < next → p m = p n) (hp : p n = true) : OI p next (o ++ [(x, z)]) := by
 subst hy
 subst hz
 have hm := h.may
 rw [G.Xx] at hm
 simp only at hm
 refine ⟨by rw [G.Xx]; simp only; exact ⟨hm.1, hm.2.1, by omega, by omega⟩, fun m => ?_, fun o' x' y' e => ?_⟩
 ·have k := h.has m
  rw [G.xy, G.qv] at k
  rw [G.xy, G.qv]
  by_cases c1 : m < n
  ·have : decide (m ≤ next - 1) = decide (m ≤ n - 1) := by rw [decide_eq_true (show m ≤ next - 1 by omega), decide_eq_true (show m ≤ n - 1 by omega)]
   rw [this, k, decide_eq_true c1, decide_eq_true (show m < next by omega)]
  ·have ko : G.hasB o m = false := by
    rw [decide_eq_false c1] at k
    simp at k
    exact k.1
   rw [ko, Bool.false_or]
   by_cases c2 : m < next
   ·rw [hf m (by omega) c2, hp, decide_eq_true (show x ≤ m by omega), decide_eq_true (show m ≤ next - 1 by omega), decide_eq_true (show 0 ≤ m by omega), decide_eq_true c2]; rfl
   ·rw [decide_eq_false (show ¬ m ≤ next - 1 by omega), decide_eq_false c2]; simp
 ·have e' := List.append_inj_right' e (by simp)
  simp at e'; omega
theorem OI.app {p : Int → Bool} {n next z : Int} {out : List (Int × Int)} (hz : z = next - 1) (h : OI p n out) (hl : ∀ o x y, out = o ++ [(x, y)] → y ≠ n - 1) (h0 : 0 ≤ n) (hn : n < next) (h1 : next ≤ 1114112) (hf : ∀ m, n ≤ m → m < next → p m = p n) (hp : p n = true) : OI p next (out ++ [(n, z)]) := by
 subst hz
 have he : G.Yy 0 out ≤ n := by
  rcases List.eq_nil_or_concat out with e | ⟨o, ⟨x, y⟩, e⟩
  ·rw [e]; exact h0
  ·rw [List.concat_eq_append] at e
   have a := hl o x y e
   have b := h.last o x y e
   rw [e, G.ZZ]; simp only; omega
 refine ⟨by rw [G.Xx]; exact ⟨h.may, he, by simp only; omega, by simp only; omega⟩, fun m => ?_, fun o' x' y' e => ?_⟩
 ·rw [G.xy, G.qv, h.has]
  by_cases c1 : m < n
  ·rw [decide_eq_true c1, decide_eq_false (show ¬ n ≤ m by omega), decide_eq_true (show m < next by omega)]; simp
  ·rw [decide_eq_false c1]
   by_cases c2 : m < next
   ·rw [hf m (by omega) c2, hp, decide_eq_true (show n ≤ m by omega), decide_eq_true (show m ≤ next - 1 by omega), decide_eq_true (show 0 ≤ m by omega), decide_eq_true c2]; rfl
   ·rw [decide_eq_false (show ¬ m ≤ next - 1 by omega), decide_eq_false c2]; simp
 ·have e' := List.append_inj_right' e (by simp)
  simp at e'; omega
theorem OI.done {p : Int → Bool} {n : Int} {out : List (Int × Int)} (h : OI p n out) (hn : n = 1114112) : G.Is out (fun m => G.dom m && p m) := by
 subst hn
 refine ⟨h.may, fun m => ?_⟩
 rw [h.has]
 unfold G.dom
 congr 2
 rw [Bool.eq_iff_iff]; simp only [decide_eq_true_eq]; omega
theorem may_step {l : List (Int × Int)} {k : Nat} {lo hi : Int} (ht : l.take (k + 1) = l.take k ++ [(lo, hi)]) : G.zQ (l.take (k + 1)) = true ↔ G.zQ (l.take k) = true ∧ G.Yy 0 (l.take k) ≤ lo ∧ lo ≤ hi ∧ hi ≤ 1114111 := by
 rw [ht, G.Xx]
theorem may_not {l : List (Int × Int)} {k : Nat} (h : ¬ G.zQ (l.take k) = true) : G.zQ l = false := by
 cases e : G.zQ l with
 | false => rfl
 | true => exact absurd (may_take e k) h
theorem end_nonneg {l : List (Int × Int)} (h : G.zQ l = true) : 0 ≤ G.Yy 0 l := by
 rcases List.eq_nil_or_concat l with e | ⟨o, r, e⟩
 ·rw [e]; exact Int.le_refl _
 ·rw [List.concat_eq_append] at e
  have := G.YX h (r := r) (by rw [e]; simp)
  rw [e, G.ZZ]; omega
theorem rgRefMay_any (a : Option Addr) (len cap : Nat) (l : List (Int × Int)) (w : World) (h : Rs w a len cap l) :
  Calls Tryz.prog 89 #[.slice a len cap] w fun e w' => e = .returned (.bool (G.zQ l)) ∧ Below w.heap.size w w' := by
 have hl := h.hlen
 have hmax := h.hmax
 have hcap := h.hcap
 unfold maxLen at hmax
 go_enter Tryz.func89, Tryz.ntmps89
 go_wp2
 go_loopw [3] (fun i wr => ∃ (k : Nat), k ≤ len ∧ i = .int .i64 k ∧ Hid (G.zQ (l.take k) = true) ∧ Hid (∃ d, wr = w.drewN d)) (fun i _ => len - (intOf i).toNat)
 case atStart => exact ⟨0, Nat.zero_le _, rfl, by show G.zQ _ = true; rfl, ⟨0, rfl⟩⟩
 case round =>
  obtain ⟨k, hk, rfl, hn, hw⟩ := hrel
  obtain ⟨d0, hw⟩ := hw
  have bw : Below w.heap.size w wr := by rw [hw]; exact vi
  have hw' := zx hw
  clear hw
  by_cases hlt : k < len
  ·obtain ⟨b, off, rfl, hr⟩ := (h.later bw (Nat.le_refl _)).open (by omega)
   obtain ⟨lo, hi, -, ht, f1, f2, c0, c1⟩ := hr.at k hlt
   unfold zW at f1 f2
   obtain ⟨f1a, f1b⟩ := f1
   obtain ⟨f2a, f2b⟩ := f2
   have k0 : ∀ d, (wr.drewN d).cell? ⟨b, off + k * 2, none⟩ = some (.int .i64 lo) := fun d => by simpa using c0
   have k1 : ∀ d, (wr.drewN d).cell? ⟨b, off + k * 2 + 1, none⟩ = some (.int .i64 hi) := fun d => by simpa using c1
   have ms := zx (may_step ht)
   clear c0 c1 ht
   by_cases t1 : hi < lo
   ·have fin := zx (may_not (l := l) (k := k + 1) (fun e => by have := (zy ms).1 e; omega))
    have q1 : decide (hi < lo) = true := decide_eq_true t1
    clear hr
    go_wp2
    go_quiet (fail)
    go_wp2
    go_ret
    exact ⟨zZ (zy fin).symm, bw.trans vi⟩
   ·have q1 : decide (hi < lo) = false := decide_eq_false t1
    by_cases t2 : lo < 0
    ·have fin := zx (may_not (l := l) (k := k + 1) (fun e => by have e2 := (zy ms).1 e; have e3 := end_nonneg e2.1; omega))
     have q2 : decide (lo < 0) = true := decide_eq_true t2
     clear hr
     go_wp2
     go_quiet (fail)
     go_wp2
     go_ret
     exact ⟨zZ (zy fin).symm, bw.trans vi⟩
    ·have q2 : decide (lo < 0) = false := decide_eq_false t2
     by_cases t3 : 1114111 < hi
     ·have fin := zx (may_not (l := l) (k := k + 1) (fun e => by have := (zy ms).1 e; omega))
      have q3 : decide (1114111 < hi) = true := decide_eq_true t3
      clear hr
      go_wp2
      go_quiet (fail)
      go_wp2
      go_ret
      exact ⟨zZ (zy fin).symm, bw.trans vi⟩
     ·have q3 : decide (1114111 < hi) = false := decide_eq_false t3
      cases k with
      | zero =>
       have st := zx ((zy ms).2 ⟨hn.out, by simp [G.Yy]; omega, by omega, by omega⟩)
       simp only [Nat.zero_mul, Nat.add_zero] at k0 k1
       clear hr
       go_wp2
       go_quiet (fail)
       go_wp2
       go_roundw
       case rel => exact ⟨0 + 1, by omega, by go_num, zy st, ⟨d0 + nq, by rw [zy hw', World.drewN_drewN]⟩⟩
       case measure => simp [intOf]; omega
      | succ j =>
       obtain ⟨plo, phi, -, htp, g1, g2, e0, e1⟩ := hr.at j (by omega)
       have l1 : ∀ d, (wr.drewN d).cell? ⟨b, off + j * 2 + 1, none⟩ = some (.int .i64 phi) := fun d => by simpa using e1
       have eo : G.Yy 0 (l.take (j + 1)) = phi + 2 := by rw [htp, G.ZZ]
       have pm := G.YX hn.out (r := (plo, phi)) (by rw [htp]; simp)
       simp only at pm
       obtain ⟨pm0, pm1, pm2⟩ := pm
       rw [eo] at ms
       clear htp g1 g2 e0 e1 eo hr
       by_cases t4 : lo < phi + 2
       ·have fin := zx (may_not (l := l) (k := j + 1 + 1) (fun e => by have := (zy ms).1 e; omega))
        go_wp2
        go_quiet (fail)
        go_wp2
        go_ret
        exact ⟨zZ (zy fin).symm, bw.trans vi⟩
       ·have st := zx ((zy ms).2 ⟨hn.out, by omega, by omega, by omega⟩)
        have t4' : phi + 2 ≤ lo := by omega
        go_wp2
        go_quiet (fail)
        go_wp2
        go_roundw
        case rel => exact ⟨j + 1 + 1, by omega, by go_num, zy st, ⟨d0 + nq, by rw [zy hw', World.drewN_drewN]⟩⟩
        case measure => simp [intOf]; omega
  ·have fin : Hid (G.zQ l = true) := by
    have := hn.out
    rw [List.take_of_length_le (by omega)] at this
    exact this
   go_wp2
   go_ret
   exact ⟨zZ (zy fin).symm, bw⟩
end Go.Proofs.YtnfgobgflcmepaaGreatDoor
