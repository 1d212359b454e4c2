/- The contracts of lines.Begin and lines.Line. -/
import Derived.Test.YtjjfeeclpidblaaLnFeeds
namespace Go.Proofs.Ytjjfeeclpidblaa.Ln
open Go.RowKit Go.Shelf
set_option linter.unusedVariables false
set_option linter.unusedSimpArgs false

/-- between two rounds: the number that is kept, and the slice that is gone through -/
structure LI (w : World) (f : List Int → Int) (a : Option Addr) (n cap : Nat) (pre : List Int) (W : World) : Prop where
  bel : Below w.heap.size w W
  size : w.heap.size + 2 ≤ W.heap.size
  box : W.heap[w.heap.size]? = some (.cells #[.int .i64 (f pre)] 3)
  src : W.heap[w.heap.size + 1]? = some (boxB a n cap)
theorem LI.put {w : World} {f : List Int → Int} {a : Option Addr} {n cap : Nat} {pre : List Int} {W : World} (h : LI w f a n cap pre W) {l : Nat} (o' : Obj) (hl : w.heap.size + 2 ≤ l) : LI w f a n cap pre (W.putObj l o') := by
  have hs := h.size
  exact ⟨h.bel.grown (grownBy_putObj' W l o') (by omega) (fun k e => by cases e; omega), by simpa using hs, (World.putObj_heap_other (by omega)).trans h.box, (World.putObj_heap_other (by omega)).trans h.src⟩
theorem LI.alloc {w : World} {f : List Int → Int} {a : Option Addr} {n cap : Nat} {pre : List Int} {W : World} (h : LI w f a n cap pre W) (o : Obj) : LI w f a n cap pre (W.alloc o) := by
  have hs := h.size
  exact ⟨h.bel.alloc (by omega) o, by simp; omega, (Below.heap_alloc _ _ _ (by omega)).trans h.box, (Below.heap_alloc _ _ _ (by omega)).trans h.src⟩
theorem LI.set {w : World} {f : List Int → Int} {a : Option Addr} {n cap : Nat} {pre : List Int} {W : World} (h : LI w f a n cap pre W) {x : Int} {v : Int} (hv : f (pre ++ [x]) = v) : LI w f a n cap (pre ++ [x]) (W.setCell ⟨w.heap.size, 0, none⟩ (.int .i64 v)) := by
  subst hv
  have hs := h.size
  exact ⟨h.bel.setCell (by simp) _, by simp [World.setCell]; omega, put_cell h.box, (Below.heap_setCell _ _ _ _ (by simp)).trans h.src⟩

def beginI (l : List Int) (i : Int) : Int := if plB l.length i = true then (beginN l i.toNat : Int) else -1
def lineI (l : List Int) (i : Int) : Int := if plB l.length i = true then (lineN l i.toNat : Int) else -1

attribute [local go_sem] Oper.semAt_some

set_option maxHeartbeats 1000000 in
theorem begin_any (a : Option Addr) (len cap : Nat) (l : List Int) (w : World) (h : Bs w a len cap l) (i : Int) :
    Calls Try.prog 14 #[.slice a len cap, .int .i64 i] w fun e w' => e = .returned (.int .i64 (beginI l i)) ∧ Below w.heap.size w w' := by
  have hl := h.hlen
  have hmax := h.hmax
  have hcap := h.hcap
  have C1 := hideR (fun W => isPlace_any a len cap i W)
  by_cases hp : plB len i = true
  · have hp' := hp
    unfold plB at hp'
    simp only [Bool.and_eq_true, decide_eq_true_eq] at hp'
    obtain ⟨n, rfl⟩ := Int.eq_ofNat_of_zero_le hp'.1
    have hn : n ≤ len := by omega
    have fin : beginI l (n : Int) = lastI (feedsN l n) := by
      unfold beginI
      rw [hl, if_pos hp, feeds_last]; rfl
    rw [fin]
    clear fin
    have C1' : Hid (∀ W, Calls Try.prog 24 #[.slice a len cap, .int .i64 n] W fun e w' => e = .returned (.bool true) ∧ w' = W) := fun W => by
      have := unhideR C1 W
      rwa [hp] at this
    have C2 := hideR (fun W => behind_any a n cap W)
    have HB := hideR (h.front n hn)
    clear C1 hp hp' h
    have hx31 : ∀ args w, (callFunc 31 args).run Try.prog w = .ok (.enter 31 args) w := enters_of Try.func31 (by kernel_rfl) rfl
    refine (callsIn_wide (n := 6)).1 ?_
    refine callsIn_of_wp_marks Try.func14 rfl trivial ?_ rfl
    simp only [Try.ntmps14, List.size_toArray, List.length_cons, List.length_nil, Nat.reduceAdd, Nat.reduceSub, Array.replicate_succ, Array.replicate_zero, List.push_toArray, List.append_toArray, List.nil_append, List.cons_append]
    gi_wp2_with fail
    refine ⟨trivial, ?_⟩
    refine (callsIn_wide.2 (unhideR C1' _)).mono ?_
    rintro e w1 ⟨rfl, hw1⟩
    obtain rfl : w = w1 := hw1.symm
    gi_wp2_with fail
    refine ⟨trivial, ?_⟩
    refine (callsIn_wide.2 (unhideR C2 _)).mono ?_
    rintro e w2 ⟨rfl, hw2⟩
    rw [hw2]
    clear hw2 w2 C1' C2
    have bel0 : Below w.heap.size w ((w.alloc (.cells #[.int .i64 0] 3)).alloc (boxB a n cap)) := ((Below.refl _ w).alloc (Nat.le_refl _) _).alloc (by simp) _
    gi_wp2_with fail
    refine rangeClos (n := 6) (by omega) (gf := 31) (cs := #[.pointer (some ⟨w.heap.size + 1, 0, none⟩)]) rfl hx31 (feedsN l n) (LI w lastI a n cap)
      (fun pre W l o o' hi hl ho hc => hi.put o' (by simp at hl; omega)) (fun pre W o hi => hi.alloc o) ?start
      (fun x => { tmps := #[.slice a len cap, .int .i64 n, undef, undef, .int .i64 0, .pointer (some ⟨w.heap.size, 0, none⟩), .int .i64 x, .slice a len cap, .int .i64 n, .bool true, .bool false, .slice a len cap, .int .i64 n, .slice a n cap, feedF (w.heap.size + 1), .int .i64 x, undef, undef], defers := [] })
      ?assign ?body ?iter ?done
    case start =>
      exact ⟨bel0, by simp, (Below.heap_alloc _ _ _ (by simp)).trans (alloc_at _ _ _ rfl), alloc_at _ _ _ (by simp)⟩
    case assign =>
      intro l x W K hK
      gi_wp2
      exact hK
    case iter =>
      intro lr W J hJI hY h0
      have := feeds_iter 5 (by omega) lr (w.heap.size + 1) a n cap (l.take n) W J (fun pre W1 hj => ⟨(unhideR HB).later (hJI _ _ hj).bel (Nat.le_refl _), (hJI _ _ hj).src⟩) (by rw [feeds_take l n n (Nat.le_refl _)]; exact hY) h0
      rw [feeds_take l n n (Nat.le_refl _)] at this
      exact this
    case body =>
      rintro lr pre x W hI ⟨rest, hrest⟩
      have c0 := (cell_of hI.box)
      obtain ⟨c0, c0f⟩ := c0
      have hI' := hideR hI
      clear hI hrest
      gi_wp2
      refine ⟨(KeepsOthers.setCell _ _ _).from _, (unhideR hI').set (last_snoc pre x)⟩
    case done =>
      intro W hi hD
      have ho := (cell_of hi.box).1
      have hi' := hideR hi
      clear hi
      gi_wp2
      refine ⟨by simp, .inl ⟨_, _, rfl, run_takeDeferred hD, ?_⟩⟩
      exact ⟨_, results_tmp rfl _ _ _, rfl, (unhideR hi').bel.grown (grownBy_putObj' W _ _) (unhideR hi').bel.size (fun k hk => by cases hk; simp; omega)⟩
  · have hp' : plB len i = false := by simpa using hp
    have fin : beginI l i = -1 := by unfold beginI; rw [hl, if_neg hp]
    rw [fin]
    rw [hp'] at C1
    clear hp hp' fin h
    go_enter Try.func14, Try.ntmps14
    go_wp2_with fail
    refine (unhideR C1 _).mono ?_
    rintro e w1 ⟨rfl, hw1⟩
    obtain rfl : w = w1 := hw1.symm
    go_wp2_with fail
    go_ret
    exact ⟨rfl, Below.refl _ _⟩

set_option maxHeartbeats 1000000 in
theorem line_any (a : Option Addr) (len cap : Nat) (l : List Int) (w : World) (h : Bs w a len cap l) (i : Int) :
    Calls Try.prog 16 #[.slice a len cap, .int .i64 i] w fun e w' => e = .returned (.int .i64 (lineI l i)) ∧ Below w.heap.size w w' := by
  have hl := h.hlen
  have hmax := h.hmax
  have hcap := h.hcap
  have C1 := hideR (fun W => isPlace_any a len cap i W)
  by_cases hp : plB len i = true
  · have hp' := hp
    unfold plB at hp'
    simp only [Bool.and_eq_true, decide_eq_true_eq] at hp'
    obtain ⟨n, rfl⟩ := Int.eq_ofNat_of_zero_le hp'.1
    have hn : n ≤ len := by omega
    have fin : lineI l (n : Int) = ((feedsN l n).length : Int) := by
      unfold lineI
      rw [hl, if_pos hp, feeds_length l n (by omega)]; rfl
    rw [fin]
    clear fin
    have C1' : Hid (∀ W, Calls Try.prog 24 #[.slice a len cap, .int .i64 n] W fun e w' => e = .returned (.bool true) ∧ w' = W) := fun W => by
      have := unhideR C1 W
      rwa [hp] at this
    have C2 := hideR (fun W => behind_any a n cap W)
    have HB := hideR (h.front n hn)
    clear C1 hp hp' h
    have hx31 : ∀ args w, (callFunc 31 args).run Try.prog w = .ok (.enter 31 args) w := enters_of Try.func31 (by kernel_rfl) rfl
    refine (callsIn_wide (n := 6)).1 ?_
    refine callsIn_of_wp_marks Try.func16 rfl trivial ?_ rfl
    simp only [Try.ntmps16, List.size_toArray, List.length_cons, List.length_nil, Nat.reduceAdd, Nat.reduceSub, Array.replicate_succ, Array.replicate_zero, List.push_toArray, List.append_toArray, List.nil_append, List.cons_append]
    gi_wp2_with fail
    refine ⟨trivial, ?_⟩
    refine (callsIn_wide.2 (unhideR C1' _)).mono ?_
    rintro e w1 ⟨rfl, hw1⟩
    obtain rfl : w = w1 := hw1.symm
    gi_wp2_with fail
    refine ⟨trivial, ?_⟩
    refine (callsIn_wide.2 (unhideR C2 _)).mono ?_
    rintro e w2 ⟨rfl, hw2⟩
    rw [hw2]
    clear hw2 w2 C1' C2
    have bel0 : Below w.heap.size w ((w.alloc (.cells #[.int .i64 0] 3)).alloc (boxB a n cap)) := ((Below.refl _ w).alloc (Nat.le_refl _) _).alloc (by simp) _
    gi_wp2_with fail
    refine rangeClos (n := 6) (by omega) (gf := 31) (cs := #[.pointer (some ⟨w.heap.size + 1, 0, none⟩)]) rfl hx31 (feedsN l n) (LI w (fun p => (p.length : Int)) a n cap)
      (fun pre W l o o' hi hl ho hc => hi.put o' (by simp at hl; omega)) (fun pre W o hi => hi.alloc o) ?start
      (fun x => { tmps := #[.slice a len cap, .int .i64 n, undef, undef, .int .i64 0, .pointer (some ⟨w.heap.size, 0, none⟩), .slice a len cap, .int .i64 n, .bool true, .bool false, .slice a len cap, .int .i64 n, .slice a n cap, feedF (w.heap.size + 1), .int .i64 x, undef, undef, undef], defers := [] })
      ?assign ?body ?iter ?done
    case start =>
      exact ⟨bel0, by simp, (Below.heap_alloc _ _ _ (by simp)).trans (alloc_at _ _ _ rfl), alloc_at _ _ _ (by simp)⟩
    case assign =>
      intro l x W K hK
      gi_wp2
      exact hK
    case iter =>
      intro lr W J hJI hY h0
      have := feeds_iter 5 (by omega) lr (w.heap.size + 1) a n cap (l.take n) W J (fun pre W1 hj => ⟨(unhideR HB).later (hJI _ _ hj).bel (Nat.le_refl _), (hJI _ _ hj).src⟩) (by rw [feeds_take l n n (Nat.le_refl _)]; exact hY) h0
      rw [feeds_take l n n (Nat.le_refl _)] at this
      exact this
    case body =>
      rintro lr pre x W hI ⟨rest, hrest⟩
      have c0 := (cell_of hI.box)
      obtain ⟨c0, c0f⟩ := c0
      have hI' := hideR hI
      have hbd : pre.length + 1 ≤ n := by
        have := feeds_bd l n
        rw [← hrest, List.length_append, List.length_cons] at this
        omega
      unfold maxLen at hmax
      clear hI hrest
      gi_wp2
      refine ⟨(KeepsOthers.setCell _ _ _).from _, (unhideR hI').set (by simp)⟩
    case done =>
      intro W hi hD
      have ho := (cell_of hi.box).1
      have hi' := hideR hi
      clear hi
      gi_wp2
      refine ⟨by simp, .inl ⟨_, _, rfl, run_takeDeferred hD, ?_⟩⟩
      exact ⟨_, results_tmp rfl _ _ _, rfl, (unhideR hi').bel.grown (grownBy_putObj' W _ _) (unhideR hi').bel.size (fun k hk => by cases hk; simp; omega)⟩
  · have hp' : plB len i = false := by simpa using hp
    have fin : lineI l i = -1 := by unfold lineI; rw [hl, if_neg hp]
    rw [fin]
    rw [hp'] at C1
    clear hp hp' fin h
    go_enter Try.func16, Try.ntmps16
    go_wp2_with fail
    refine (unhideR C1 _).mono ?_
    rintro e w1 ⟨rfl, hw1⟩
    obtain rfl : w = w1 := hw1.symm
    go_wp2_with fail
    go_ret
    exact ⟨rfl, Below.refl _ _⟩

end Go.Proofs.Ytjjfeeclpidblaa.Ln
