/- Parts of the proof of NullTells that stand ahead of it (24: TkI). -/
import Derived.Test.YtnfgobgflcmepaaGreatDoorNullTellsM22
import Derived.Test.YtnfgobgflcmepaaGreatDoorNullTellsM6
import Derived.Test.YtnfgobgflcmepaaGreatDoorNullTellsM17
set_option linter.unusedVariables false
set_option linter.unusedSimpArgs false
set_option maxRecDepth 20000
set_option maxHeartbeats 16000000
namespace Go.Proofs.YtnfgobgflcmepaaGreatDoor.T
open Go.RowKit
def Ya (b : Bool) : Nat → List Int → List (Int × Int) × Nat
 | 0, _ => ([], 0)
 | f + 1, r => match yx b r with
  | none => ([], 0)
  | some (x, n) => (x :: (Ya b f (r.drop n)).1, n + (Ya b f (r.drop n)).2)
theorem item_nil (b : Bool) : yx b [] = none := by
 cases b
 ·rfl
 ·have : Zw [] = -1 := by decide
  unfold yx jK
  simp [this]
theorem Xa (b : Bool) : ∀ f, Ya b f [] = ([], 0) := by
 intro f
 cases f with
 | zero => rfl
 | succ f => simp only [Ya, item_nil]
theorem items_fuel (b : Bool) : ∀ (f g : Nat) (r : List Int), U.zq r → r.length ≤ f → r.length ≤ g → Ya b f r = Ya b g r := by
 intro f
 induction f with
 | zero =>
  intro g r hb h1 h2
  have : r = [] := List.eq_nil_of_length_eq_zero (by omega)
  subst this
  rw [Xa, Xa]
 | succ f ih =>
  intro g r hb h1 h2
  cases g with
  | zero =>
   have : r = [] := List.eq_nil_of_length_eq_zero (by omega)
   subst this
   rw [Xa, Xa]
  | succ g =>
   simp only [Ya]
   cases e : yx b r with
   | none => rfl
   | some p =>
    obtain ⟨x, n⟩ := p
    have := qx b r x n hb e
    simp only
    rw [ih g (r.drop n) (U.zv hb n) (by rw [List.length_drop]; omega) (by rw [List.length_drop]; omega)]
def ze (b : Bool) (r : List Int) : List (Int × Int) × Nat := Ya b r.length r
theorem ja {b : Bool} {r : List Int} (h : yx b r = none) : ze b r = ([], 0) := by
 unfold ze
 cases e : r.length with
 | zero => rfl
 | succ f => simp only [Ya, h]
theorem Xj {b : Bool} {r : List Int} (hb : U.zq r) {x : Int × Int} {n : Nat} (h : yx b r = some (x, n)) : ze b r = (x :: (ze b (r.drop n)).1, n + (ze b (r.drop n)).2) := by
 have hn := qx b r x n hb h
 unfold ze
 obtain ⟨k, hk⟩ : ∃ k, r.length = k + 1 := ⟨r.length - 1, by omega⟩
 rw [hk]
 simp only [Ya, h]
 rw [items_fuel b k (r.drop n).length (r.drop n) (U.zv hb n) (by rw [List.length_drop]; omega) (Nat.le_refl _)]
theorem items_len (b : Bool) : ∀ (f : Nat) (r : List Int), U.zq r → r.length ≤ f → (ze b r).2 ≤ r.length ∧ (ze b r).1.length ≤ (ze b r).2 := by
 intro f
 induction f with
 | zero =>
  intro r hb h
  have : r = [] := List.eq_nil_of_length_eq_zero (by omega)
  subst this
  rw [ja (item_nil b)]
  simp
 | succ f ih =>
  intro r hb h
  cases e : yx b r with
  | none => rw [ja e]; simp
  | some p =>
   obtain ⟨x, n⟩ := p
   have hn := qx b r x n hb e
   have := ih (r.drop n) (U.zv hb n) (by rw [List.length_drop]; omega)
   rw [List.length_drop] at this
   rw [Xj hb e]
   simp only [List.length_cons]
   omega
theorem items_gather {b : Bool} {stop : Int} (h0 : stop ≠ 0) (hs : ∀ r : List Int, r.getD 0 0 = stop → yx b r = none) : ∀ (f : Nat) (r : List Int), U.zq r → r.length ≤ f →
  yu (yx b) stop r = if (r.drop (ze b r).2).getD 0 0 = stop then some ((ze b r).1, (ze b r).2 + 1) else none := by
 intro f
 induction f with
 | zero =>
  intro r hb h
  have : r = [] := List.eq_nil_of_length_eq_zero (by omega)
  subst this
  rw [ja (item_nil b), jZ, if_neg (by simp [List.getD]; omega)]
 | succ f ih =>
  intro r hb h
  by_cases hr : r = []
  ·subst hr
   rw [ja (item_nil b), jZ, if_neg (by simp [List.getD]; omega)]
  ·by_cases hst : r.getD 0 0 = stop
   ·rw [ja (hs r hst), vW hr hst, List.drop_zero, if_pos hst]
   ·cases e : yx b r with
    | none => rw [Xo hr hst e, ja e, List.drop_zero, if_neg hst]
    | some p =>
     obtain ⟨x, n⟩ := p
     have hn := qx b r x n hb e
     rw [ve (qx b) hb hr hst e, ih (r.drop n) (U.zv hb n) (by rw [List.length_drop]; omega), Xj hb e, List.drop_drop]
     by_cases cc : (List.drop (n + (ze b (r.drop n)).2) r).getD 0 0 = stop
     ·rw [if_pos cc, if_pos cc]
      simp only [Option.some.injEq, Prod.mk.injEq, true_and]
      omega
     ·rw [if_neg cc, if_neg cc]
theorem ju {W W' : World} (h : Below W.heap.size W W') {base : Nat} {e : TypeId} {size : Nat} {v : Value} {n : Nat} {xs : List Value} (ho : W.ownsRow base e size v n xs) : W'.ownsRow base e size v n xs :=
 ho.kept (show W.grownBy W' none from ⟨h.os, h.tape, h.output, h.size, fun k hk _ => h.block k hk⟩) (by cases v.ownBlock <;> simp)
theorem below_app2 {B : Nat} {w w1 : World} {o1 o2 : Obj} {e : TypeId} {sz n : Nat} {v : Value} {xs : List Value} (h : w.ownsRow B e sz v n xs) (hB : B ≤ w.heap.size) (hg : ((w.alloc o1).alloc o2).grownBy w1 v.ownBlock) : Below B w w1 :=
 (((Below.refl B w).alloc hB _).alloc (by simp; omega) _).grown hg (by simp; omega) (fun k hk => (h.lt k hk).1)
theorem itemsH (a : Option Addr) (len cap : Nat) (l : List Int) (w : World) (h : Bs w a len cap l) (hl : len ≤ 100000) :
  Calls Tryz.prog 155 #[.slice a len cap, .func (.func 160) #[] #[]] w fun e w' => ∃ v, e = .returned (.tuple #[v, .int .i64 ((ze true l).2 : Nat)]) ∧ Ow w' w.heap.size v (ze true l).1 ∧ Below w.heap.size w w' := by
 have hlen := h.hlen
 have hcap := h.hcap
 have hbb := h.hbytes
 have HB := zx h
 have HBB := zx hbb
 obtain ⟨i0, hi0, hz0, hz1, hz2⟩ := info_parts infoRg
 clear h hbb
 go_enter Tryz.func155, Tryz.ntmps155
 go_wp2_with fail
 go_loopw [6, 7] (fun v j wr => ∃ (k : Nat) (out : List (Int × Int)), k ≤ len ∧ out.length ≤ k ∧ j = .int .i64 (k : Int) ∧ Hid (ze true l = (out ++ (ze true (l.drop k)).1, k + (ze true (l.drop k)).2)) ∧ wr.ownsRow w.heap.size 169 2 v out.length (yq out) ∧ Below w.heap.size w wr) (fun _ j _ => len - (intOf j).toNat)
 case atStart => exact ⟨0, [], Nat.zero_le _, Nat.le_refl _, rfl, by show _ = _; simp, World.ownsRow_nil _ _ _ _, Below.refl _ _⟩
 case round =>
  obtain ⟨k, out, hk, hok, rfl, hg, hown, hb⟩ := hrel
  have hB := Bs.later (zy HB) hb (Nat.le_refl _)
  have sl := xq a len cap k k rfl hk
  have CI := zx (itemH _ _ _ _ wr (Bs.dropA hB k hk) (by omega))
  have HO := zx hown
  have hws := hb.size
  cases e1 : yx true (l.drop k) with
  | none =>
   have HG : Hid (ze true l = (out, k)) := by
    show _ = _
    rw [hg.out, ja e1]
    simp
   rw [e1] at CI
   replace CI : Hid (Calls Tryz.prog 188 #[.slice (dropA a cap k) (len - k) (cap - k), .func (.func 160) #[] #[]] wr fun e w' => e = .returned (.tuple #[.agg #[.int .i64 0, .int .i64 0], .int .i64 0]) ∧ Below wr.heap.size wr w') := CI
   clear e1 hg hB HB HBB hown
   go_wp2_with fail
   refine (zy CI).mono ?_
   rintro e w1 ⟨rfl, b1⟩
   clear CI
   go_wp2_with fail
   go_ret2
   refine ⟨u6, ?_, ?_, ?_⟩
   rotate_left
   ·rw [zy HG]
    exact (ju b1 (zy HO)).alloc _
   ·exact (hb.trans (b1.mono hws)).alloc (by have := b1.size; omega) _
   ·rw [zy HG]
    rfl
  | some p =>
   obtain ⟨⟨lo, hi⟩, n⟩ := p
   have gd := qx true _ _ n (U.zv (zy HBB) k) e1
   rw [List.length_drop] at gd
   have HG : Hid (ze true l = ((out ++ [(lo, hi)]) ++ (ze true (l.drop (k + n))).1, k + n + (ze true (l.drop (k + n))).2)) := by
    show _ = _
    rw [hg.out, Xj (U.zv (zy HBB) k) e1, List.drop_drop]
    simp only [List.append_assoc, List.singleton_append, Prod.mk.injEq, true_and]
    omega
   rw [e1] at CI
   replace CI : Hid (Calls Tryz.prog 188 #[.slice (dropA a cap k) (len - k) (cap - k), .func (.func 160) #[] #[]] wr fun e w' => e = .returned (.tuple #[.agg #[.int .i64 lo, .int .i64 hi], .int .i64 (n : Int)]) ∧ Below wr.heap.size wr w') := CI
   have t0 : ((n : Int) == 0) = false := beq_eq_false_iff_ne.2 (by omega)
   clear e1 hg hB HB HBB hown
   go_wp2_with fail
   refine (zy CI).mono ?_
   rintro e w1 ⟨rfl, b1⟩
   clear CI
   have ho1 := ju b1 (zy HO)
   have hb1 := hb.trans (b1.mono hws)
   have hs1 := hb1.size
   clear HO
   go_wp2_with (at_builtin; refine wpList_append_lies _ rfl _ _ 37 rfl w.heap.size 169 i0 _ 2 16 Tryz.underlying37 hi0 hz0 hz1 hz2 rfl (by omega) _ _ _ rfl ((ho1.alloc _).alloc _) ⟨w1.heap.size + 1, 0, none⟩ 1 1 [.int .i64 lo, .int .i64 hi] rfl rfl (jQ _ _ _ _ (by simp)) (by simp [Value.oneCell']) (by omega) (by unfold maxLen; omega) (by omega) (by simp; omega) (w1.heap.size + 2) (by simp) ?_; intro gg cap1 w2 hown1 hgrow hat hlt1)
   go_roundw
   case rel => exact ⟨k + n, out ++ [(lo, hi)], by omega, by simp; omega, by go_num, HG, by rw [yj, List.length_append]; exact hown1, hb1.trans (below_app2 ho1 hs1 hgrow)⟩
   case measure => simp [intOf]; omega
theorem itemsS (a : Option Addr) (len cap : Nat) (l : List Int) (w : World) (h : Bs w a len cap l) (hl : len ≤ 100000) :
  Calls Tryz.prog 155 #[.slice a len cap, .func (.func 156) #[] #[]] w fun e w' => ∃ v, e = .returned (.tuple #[v, .int .i64 ((ze false l).2 : Nat)]) ∧ Ow w' w.heap.size v (ze false l).1 ∧ Below w.heap.size w w' := by
 have hlen := h.hlen
 have hcap := h.hcap
 have hbb := h.hbytes
 have HB := zx h
 have HBB := zx hbb
 obtain ⟨i0, hi0, hz0, hz1, hz2⟩ := info_parts infoRg
 clear h hbb
 go_enter Tryz.func155, Tryz.ntmps155
 go_wp2_with fail
 go_loopw [6, 7] (fun v j wr => ∃ (k : Nat) (out : List (Int × Int)), k ≤ len ∧ out.length ≤ k ∧ j = .int .i64 (k : Int) ∧ Hid (ze false l = (out ++ (ze false (l.drop k)).1, k + (ze false (l.drop k)).2)) ∧ wr.ownsRow w.heap.size 169 2 v out.length (yq out) ∧ Below w.heap.size w wr) (fun _ j _ => len - (intOf j).toNat)
 case atStart => exact ⟨0, [], Nat.zero_le _, Nat.le_refl _, rfl, by show _ = _; simp, World.ownsRow_nil _ _ _ _, Below.refl _ _⟩
 case round =>
  obtain ⟨k, out, hk, hok, rfl, hg, hown, hb⟩ := hrel
  have hB := Bs.later (zy HB) hb (Nat.le_refl _)
  have sl := xq a len cap k k rfl hk
  have CI := zx (itemS _ _ _ _ wr (Bs.dropA hB k hk) (by omega))
  have HO := zx hown
  have hws := hb.size
  cases e1 : yx false (l.drop k) with
  | none =>
   have HG : Hid (ze false l = (out, k)) := by
    show _ = _
    rw [hg.out, ja e1]
    simp
   rw [e1] at CI
   replace CI : Hid (Calls Tryz.prog 188 #[.slice (dropA a cap k) (len - k) (cap - k), .func (.func 156) #[] #[]] wr fun e w' => e = .returned (.tuple #[.agg #[.int .i64 0, .int .i64 0], .int .i64 0]) ∧ Below wr.heap.size wr w') := CI
   clear e1 hg hB HB HBB hown
   go_wp2_with fail
   refine (zy CI).mono ?_
   rintro e w1 ⟨rfl, b1⟩
   clear CI
   go_wp2_with fail
   go_ret2
   refine ⟨u6, ?_, ?_, ?_⟩
   rotate_left
   ·rw [zy HG]
    exact (ju b1 (zy HO)).alloc _
   ·exact (hb.trans (b1.mono hws)).alloc (by have := b1.size; omega) _
   ·rw [zy HG]
    rfl
  | some p =>
   obtain ⟨⟨lo, hi⟩, n⟩ := p
   have gd := qx false _ _ n (U.zv (zy HBB) k) e1
   rw [List.length_drop] at gd
   have HG : Hid (ze false l = ((out ++ [(lo, hi)]) ++ (ze false (l.drop (k + n))).1, k + n + (ze false (l.drop (k + n))).2)) := by
    show _ = _
    rw [hg.out, Xj (U.zv (zy HBB) k) e1, List.drop_drop]
    simp only [List.append_assoc, List.singleton_append, Prod.mk.injEq, true_and]
    omega
   rw [e1] at CI
   replace CI : Hid (Calls Tryz.prog 188 #[.slice (dropA a cap k) (len - k) (cap - k), .func (.func 156) #[] #[]] wr fun e w' => e = .returned (.tuple #[.agg #[.int .i64 lo, .int .i64 hi], .int .i64 (n : Int)]) ∧ Below wr.heap.size wr w') := CI
   have t0 : ((n : Int) == 0) = false := beq_eq_false_iff_ne.2 (by omega)
   clear e1 hg hB HB HBB hown
   go_wp2_with fail
   refine (zy CI).mono ?_
   rintro e w1 ⟨rfl, b1⟩
   clear CI
   have ho1 := ju b1 (zy HO)
   have hb1 := hb.trans (b1.mono hws)
   have hs1 := hb1.size
   clear HO
   go_wp2_with (at_builtin; refine wpList_append_lies _ rfl _ _ 37 rfl w.heap.size 169 i0 _ 2 16 Tryz.underlying37 hi0 hz0 hz1 hz2 rfl (by omega) _ _ _ rfl ((ho1.alloc _).alloc _) ⟨w1.heap.size + 1, 0, none⟩ 1 1 [.int .i64 lo, .int .i64 hi] rfl rfl (jQ _ _ _ _ (by simp)) (by simp [Value.oneCell']) (by omega) (by unfold maxLen; omega) (by omega) (by simp; omega) (w1.heap.size + 2) (by simp) ?_; intro gg cap1 w2 hown1 hgrow hat hlt1)
   go_roundw
   case rel => exact ⟨k + n, out ++ [(lo, hi)], by omega, by simp; omega, by go_num, HG, by rw [yj, List.length_append]; exact hown1, hb1.trans (below_app2 ho1 hs1 hgrow)⟩
   case measure => simp [intOf]; omega
end Go.Proofs.YtnfgobgflcmepaaGreatDoor.T
