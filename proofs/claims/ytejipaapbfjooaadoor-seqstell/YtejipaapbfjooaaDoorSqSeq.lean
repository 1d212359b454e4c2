/- The contract of seqs.sequence. -/
import Derived.Test.YtejipaapbfjooaaDoorSqSplit
import Derived.Test.YtejipaapbfjooaaDoorUtfBack
namespace Go.Proofs.YtejipaapbfjooaaDoor
open Go.RowKit
set_option linter.unusedVariables false
set_option linter.unusedSimpArgs false

/-- what is put, as a slice of bytes that lies somewhere -/
theorem sput_bs (r : Int) (w : World) (h : U.mayB r = true) :
    Calls Tryd.prog 21 #[.int .i64 r] w fun e w' => ∃ k, e = .returned (.tuple #[.slice (some ⟨k, 0, none⟩) (U.putL r).length (U.putL r).length, .bool true]) ∧ Bs w' (some ⟨k, 0, none⟩) (U.putL r).length (U.putL r).length (U.putL r) ∧ Below w.heap.size w w' :=
  (put_yes r w h).mono fun e w' ⟨he, hw⟩ => ⟨w.heap.size, he, by
    subst hw
    exact Bs.fresh w (U.putL r) (U.putL_bytes h) (by have := (U.putL_len r).2; unfold maxLen; omega), by subst hw; exact Below.new1 _⟩

theorem Bb.at {w : World} {b off len cap : Nat} {l : List Int} (h : Bb w b off len cap l) (k : Nat) (hk : k < len) :
    ∃ z, l[k]? = some z ∧ (0 ≤ z ∧ z ≤ 255) ∧ w.cell? ⟨b, off + k, none⟩ = some (.int .u8 z) := by
  have hl := h.hlen
  have hc := h.hcell k hk
  have hk' : k < l.length := by omega
  have e : l.getD k 0 = l[k] := by simp [List.getD, hk']
  rw [e] at hc
  exact ⟨l[k], List.getElem?_eq_getElem hk', h.hbytes l[k] (List.getElem_mem hk'), hc⟩

/-- the ranges that are laid so far, and empty ones for the rest -/
def half (n i : Nat) (A B : List Int) : List (Int × Int) := (A.zip B).take i ++ List.replicate (n - i) (0, 0)
theorem half_zero (n : Nat) (A B : List Int) : half n 0 A B = List.replicate n (0, 0) := by simp [half]
theorem half_full {n : Nat} {A B : List Int} (ha : A.length = n) (hb : B.length = n) : half n n A B = A.zip B := by
  unfold half
  rw [List.take_of_length_le (by simp [ha, hb]), Nat.sub_self]; simp
theorem half_length {n i : Nat} {A B : List Int} (ha : A.length = n) (hb : B.length = n) (hi : i ≤ n) : (half n i A B).length = n := by
  unfold half; simp [ha, hb]; omega
theorem scells_set (L R : List (Int × Int)) (p : Int × Int) (x y : Int) : ((cellsL (L ++ p :: R)).set (L.length * 2) (.int .i64 x)).set (L.length * 2 + 1) (.int .i64 y) = cellsL (L ++ (x, y) :: R) := by
  have e : ∀ q : Int × Int, cellsL (L ++ q :: R) = cellsL L ++ (Value.int .i64 q.1 :: Value.int .i64 q.2 :: cellsL R) := fun q => by rw [cellsL_append]; rfl
  rw [e, e, List.set_append_right _ _ (by rw [cellsL_length]; exact Nat.le_refl _), List.set_append_right _ _ (by rw [cellsL_length]; omega), cellsL_length, Nat.sub_self, show L.length * 2 + 1 - L.length * 2 = 1 by omega]
  rfl
theorem half_set {n i : Nat} {A B : List Int} {x y : Int} (ha : A.length = n) (hb : B.length = n) (hi : i < n) (ea : A[i]? = some x) (eb : B[i]? = some y) :
    ((cellsL (half n i A B)).set (i * 2) (.int .i64 x)).set (i * 2 + 1) (.int .i64 y) = cellsL (half n (i + 1) A B) := by
  have hz : i < (A.zip B).length := by simp [ha, hb]; exact hi
  have e1 : (A.zip B).take (i + 1) = (A.zip B).take i ++ [(x, y)] := by
    rw [List.take_succ_eq_append_getElem hz, List.getElem_zip]
    rw [List.getElem?_eq_getElem (by omega)] at ea eb
    rw [Option.some.inj ea, Option.some.inj eb]
  have hl : ((A.zip B).take i).length = i := by simp [ha, hb]; omega
  have e2 : half n i A B = (A.zip B).take i ++ (0, 0) :: List.replicate (n - (i + 1)) (0, 0) := by
    unfold half
    rw [show n - i = (n - (i + 1)) + 1 by omega, List.replicate_succ]
  have := scells_set ((A.zip B).take i) (List.replicate (n - (i + 1)) (0, 0)) (0, 0) x y
  rw [hl] at this
  rw [e2, this]
  unfold half
  rw [e1]; simp
theorem half_at {n i : Nat} {A B : List Int} (ha : A.length = n) (hb : B.length = n) (hi : i < n) : (cellsL (half n i A B))[i * 2]? = some (.int .i64 0) ∧ (cellsL (half n i A B))[i * 2 + 1]? = some (.int .i64 0) := by
  have hl : ((A.zip B).take i).length = i := by simp [ha, hb]; omega
  have h := cellsL_at (half n i A B) i (by rw [half_length ha hb (by omega)]; exact hi)
  have e : (half n i A B).getD i (0, 0) = (0, 0) := by
    unfold half
    rw [List.getD, List.getElem?_append_right (by omega), hl, Nat.sub_self, show n - i = (n - (i + 1)) + 1 by omega, List.replicate_succ]; rfl
  rw [e] at h
  exact h
theorem made_zero (n : Nat) : (madeCells #[.int .i64 0, .int .i64 0] (n * 2)).toList = cellsL (List.replicate n (0, 0)) := by
  apply List.ext_getElem?
  intro j
  have hl : (cellsL (List.replicate n (0, 0))).length = n * 2 := by rw [cellsL_length]; simp
  by_cases hj : j < n * 2
  · have h1 : (madeCells #[.int .i64 0, .int .i64 0] (n * 2)).toList[j]? = some (.int .i64 0) := by
      have : j % 2 = 0 ∨ j % 2 = 1 := by omega
      rcases this with h | h <;> simp [madeCells, hj, h]
    have h2 : ∀ v ∈ cellsL (List.replicate n (0, 0)), v = Value.int .i64 0 := by
      intro v hv
      obtain ⟨r, hr, hv⟩ := List.mem_flatMap.1 hv
      rw [List.mem_replicate] at hr
      obtain ⟨_, rfl⟩ := hr
      simpa using hv
    rw [h1, List.getElem?_eq_getElem (by omega)]
    congr 1
    exact (h2 _ (List.getElem_mem _)).symm
  · rw [List.getElem?_eq_none (by simp [madeCells]; omega), List.getElem?_eq_none (by omega)]

theorem zip_fits {A B : List Int} (ha : U.isBytes A) (hb : U.isBytes B) {r : Int × Int} (h : r ∈ A.zip B) : fits r.1 ∧ fits r.2 := by
  obtain ⟨x, y⟩ := r
  have h1 := ha x (List.of_mem_zip h).1
  have h2 := hb y (List.of_mem_zip h).2
  unfold fits; simp only; omega
theorem below_of_grown {w w' : World} (h : w.grownBy w' none) : Below w.heap.size w w' := (Below.refl _ _).grown h (Nat.le_refl _) (fun k hk => by cases hk)

set_option maxRecDepth 20000 in
set_option maxHeartbeats 1000000 in
theorem seq_any (lo hi : Int) (w : World) (h0 : U.mayB lo = true) (h1 : U.mayB hi = true) (hsame : (U.putL lo).length = (U.putL hi).length) :
    Calls Tryd.prog 28 #[.agg #[.int .i64 lo, .int .i64 hi]] w (LiO w (Q.seqL (lo, hi))) := by
  obtain ⟨i0, hi0, hz0, hz1, hz2⟩ := info_parts infoRg
  have C0 := hideR (fun W => sput_bs lo W h0)
  have C1 := hideR (fun W => sput_bs hi W h1)
  have hn := U.putL_len lo
  have hb0 := hideR (U.putL_bytes h0)
  have hb1 := hideR (U.putL_bytes h1)
  unfold Q.seqL
  dsimp only
  generalize U.putL lo = A at *
  generalize U.putL hi = B at *
  obtain ⟨n, hA⟩ : ∃ n, A.length = n := ⟨_, rfl⟩
  rw [hA] at hn C0 hsame
  rw [← hsame] at C1
  have HA' := hideR hA
  have HB' := hideR hsame.symm
  clear h0 h1 hsame hA
  go_enter Tryd.func28, Tryd.ntmps28
  go_wp2_with fail
  refine (unhideR C0 _).mono ?_
  rintro e w1 ⟨k1, rfl, r1, b1⟩
  have s1 := b1.size
  simp only [World.size_alloc] at s1 b1
  have q0 : w1.cell? ⟨w.heap.size, 1, none⟩ = some (.int .i64 hi) := by
    rw [b1.cell (by simp)]
    exact World.cell?_alloc_at _ _ _ _ rfl
  have B1 : Below w.heap.size w w1 := (Below.new1 _).trans (b1.mono (by omega))
  clear b1 C0
  go_wp2_with fail
  refine (unhideR C1 _).mono ?_
  rintro e w2 ⟨k2, rfl, r2, b2⟩
  have R1 := hideR (r1.later b2 (Nat.le_refl _))
  have R2 := hideR r2
  have B2 : Below w.heap.size w w2 := B1.trans (b2.mono B1.size)
  clear r1 r2 C1 q0 B1 b2 s1
  go_wp2_with (at_make; refine wpList_make_full _ rfl _ _ 22 rfl w.heap.size 41 i0 _ 2 Tryd.underlying22 hi0 hz0 hz1 .i64 .i64 _ _ n rfl rfl rfl rfl (by rw [hz2]; omega) (by unfold maxLen; omega) B2.size ?_; intro w3 hown hg3)
  rw [show (Value.agg #[.int .i64 0, .int .i64 0]).cells = #[.int .i64 0, .int .i64 0] from rfl, made_zero, ← half_zero n A B] at hown
  have hgb : w.heap.size ≤ w2.heap.size := B2.size
  have B3 : Below w.heap.size w w3 := B2.grown hg3 B2.size (fun k hk => by cases hk)
  have bg := below_of_grown hg3
  have R1' := hideR ((unhideR R1).later bg (Nat.le_refl _))
  have R2' := hideR ((unhideR R2).later bg (Nat.le_refl _))
  have lt1 : k1 < w2.heap.size := by
    obtain ⟨b, off, e, hc⟩ := (unhideR R1).hcell 0 (by omega)
    simp at e; obtain ⟨rfl, rfl⟩ := e
    exact block_lt' hc
  have lt2 : k2 < w2.heap.size := by
    obtain ⟨b, off, e, hc⟩ := (unhideR R2).hcell 0 (by omega)
    simp at e; obtain ⟨rfl, rfl⟩ := e
    exact block_lt' hc
  have lt3 : w2.heap.size < w3.heap.size := by
    have := hown.lt w2.heap.size rfl
    exact this.2
  clear R1 R2 hg3 bg B2
  generalize w2.heap.size = g at *
  go_loopw [26] (fun i wr => ∃ (m : Nat), m ≤ n ∧ i = .int .i64 m ∧ Hid (wr.ownsRow w.heap.size 41 2 (.slice (some ⟨g, 0, none⟩) n n) n (cellsL (half n m A B))) ∧ Below g w3 wr) (fun i _ => n - (intOf i).toNat)
  case atStart => exact ⟨0, Nat.zero_le _, rfl, hown, Below.refl _ _⟩
  case round =>
    clear hown
    obtain ⟨m, hm, rfl, hown, hb⟩ := hrel
    by_cases hlt : m < n
    · obtain ⟨b1, o1, e1, T1⟩ := R1'.out.open hn.1
      simp at e1; obtain ⟨rfl, rfl⟩ := e1
      obtain ⟨b2, o2, e2, T2⟩ := R2'.out.open hn.1
      simp at e2; obtain ⟨rfl, rfl⟩ := e2
      obtain ⟨x, ex, bx, cx⟩ := T1.at m hlt
      obtain ⟨y, ey, by', cy⟩ := T2.at m hlt
      have cx' : wr.cell? ⟨k1, m, none⟩ = some (.int .u8 x) := by rw [hb.cell (p := ⟨k1, m, none⟩) lt1, ← cx, Nat.zero_add]
      have cy' : wr.cell? ⟨k2, m, none⟩ = some (.int .u8 y) := by rw [hb.cell (p := ⟨k2, m, none⟩) lt2, ← cy, Nat.zero_add]
      have hc := half_at (unhideR HA') (unhideR HB') hlt
      have u0 : wr.cell? ⟨g, m * 2, none⟩ = some (.int .i64 0) := (hown.out.cellAt (m * 2) (by omega)).trans hc.1
      have u1 : wr.cell? ⟨g, m * 2 + 1, none⟩ = some (.int .i64 0) := (hown.out.cellAt (m * 2 + 1) (by omega)).trans hc.2
      have v0 : wr.frozen? ⟨g, m * 2, none⟩ = false := hown.out.frozenAt _
      have v1 : wr.frozen? ⟨g, m * 2 + 1, none⟩ = false := hown.out.frozenAt _
      have st : Hid (((wr.setCell ⟨g, m * 2, none⟩ (.int .i64 x)).setCell ⟨g, m * 2 + 1, none⟩ (.int .i64 y)).ownsRow w.heap.size 41 2 (.slice (some ⟨g, 0, none⟩) n n) n (cellsL (half n (m + 1) A B))) := by
        show World.ownsRow _ _ _ _ _ _ _
        have := ((hown.out.stored (m * 2) (.int .i64 x)).1.stored (m * 2 + 1) (.int .i64 y)).1
        rw [half_set (unhideR HA') (unhideR HB') hlt ex ey] at this
        exact this
      clear T1 T2 cx cy hc hown ex ey
      go_wp2_with fail
      go_region
      go_wp2_with fail
      exact ⟨⟨m + 1, by omega, by go_num, st, ((hb.setCell (by simp) _).setCell (by simp) _).drew⟩, by simp [intOf]; omega⟩
    · obtain rfl : m = n := by omega
      go_wp2_with fail
      go_ret
      have ho := hown.out
      rw [half_full (unhideR HA') (unhideR HB')] at ho
      have hz : (A.zip B).length = m := by have h1 := unhideR HA'; have h2 := unhideR HB'; simp [h1, h2]
      have ho2 : Ow wr w.heap.size (.slice (some ⟨g, 0, none⟩) m m) (A.zip B) := by unfold Ow; rw [hz]; exact ho
      exact ⟨_, rfl, ho2, B3.trans (hb.mono hgb)⟩

end Go.Proofs.YtejipaapbfjooaaDoor
