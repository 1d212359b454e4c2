/- Slices of slices of ranges; the contract of seqs.Of. -/
import Derived.Test.YtejipaapbfjooaaDoorSqSeq
namespace Go.Proofs.YtejipaapbfjooaaDoor
open Go.RowKit
set_option linter.unusedVariables false
set_option linter.unusedSimpArgs false

theorem infoSl : (Tryd.prog.info? 22).map (fun i => (i.zero, i.size, i.bytes)) = some (some (.slice none 0 0), 1, 24) := by kernel_rfl

/-- What is told of a slice of slices of ranges: its elements, each with what lies behind it. -/
structure Sq (w : World) (a : Option Addr) (len cap : Nat) (S : List (List (Int × Int))) : Prop where
  hlen : S.length = len
  hcap : len ≤ cap
  hmax : cap ≤ maxLen
  hcell : ∀ i, i < len → ∃ b off x c, a = some ⟨b, off, none⟩ ∧ w.cell? ⟨b, off + i, none⟩ = some (.slice x (S.getD i []).length c) ∧ Rs w x (S.getD i []).length c (S.getD i [])

theorem Sq.later {w w' : World} {a : Option Addr} {len cap : Nat} {S : List (List (Int × Int))} (h : Sq w a len cap S) {B : Nat} (hb : Below B w w') (hB : w.heap.size ≤ B) : Sq w' a len cap S := by
  refine ⟨h.hlen, h.hcap, h.hmax, fun i hi => ?_⟩
  obtain ⟨b, off, x, c, ha, hc, hr⟩ := h.hcell i hi
  have hlt : b < w.heap.size := block_lt' hc
  exact ⟨b, off, x, c, ha, by rw [hb.cell (p := ⟨b, off + i, none⟩) (Nat.lt_of_lt_of_le hlt hB)]; exact hc, hr.later hb hB⟩

/-- one element -/
theorem Sq.at {w : World} {a : Option Addr} {len cap : Nat} {S : List (List (Int × Int))} (h : Sq w a len cap S) (i : Nat) (hi : i < len) :
    ∃ b off x c s, a = some ⟨b, off, none⟩ ∧ S[i]? = some s ∧ S.drop i = s :: S.drop (i + 1) ∧ S.take (i + 1) = S.take i ++ [s] ∧ w.cell? ⟨b, off + i, none⟩ = some (.slice x s.length c) ∧ Rs w x s.length c s := by
  have hl := h.hlen
  have hi' : i < S.length := by omega
  obtain ⟨b, off, x, c, ha, hc, hr⟩ := h.hcell i hi
  have e : S.getD i [] = S[i] := by simp [List.getD, hi']
  rw [e] at hc hr
  exact ⟨b, off, x, c, S[i], ha, List.getElem?_eq_getElem hi', List.drop_eq_getElem_cons hi', List.take_succ_eq_append_getElem hi', hc, hr⟩

/-- the values of a row of slices, and what lies behind each; none in the row's own block -/
def Sl (w : World) (own : Option Nat) : List Value → List (List (Int × Int)) → Prop
  | [], [] => True
  | u :: us, s :: S => (∃ b off c, u = .slice (some ⟨b, off, none⟩) s.length c ∧ b < w.heap.size ∧ Rs w (some ⟨b, off, none⟩) s.length c s ∧ own ≠ some b) ∧ Sl w own us S
  | _, _ => False

theorem Rs.kept {w w' : World} {b off len cap : Nat} {l : List (Int × Int)} {own : Option Nat} (h : Rs w (some ⟨b, off, none⟩) len cap l) (hg : w.grownBy w' own) (hne : own ≠ some b) : Rs w' (some ⟨b, off, none⟩) len cap l := by
  refine ⟨h.hlen, h.hcap, h.hmax, h.hfit, fun i hi => ?_⟩
  obtain ⟨b', off', ha, hc, hd⟩ := h.hcell i hi
  injection ha with e
  injection e with e1 e2
  subst e1; subst e2
  exact ⟨_, _, rfl, hg.cell hc (fun e => hne e.symm), hg.cell hd (fun e => hne e.symm)⟩

theorem Sl.kept {w w' : World} {own own' : Option Nat} {us : List Value} {S : List (List (Int × Int))} (h : Sl w own us S) (hg : w.grownBy w' own) (ho : own' = own ∨ ∃ H, own' = some H ∧ w.heap.size ≤ H) : Sl w' own' us S := by
  induction us generalizing S with
  | nil => cases S <;> simp_all [Sl]
  | cons u us ih =>
    cases S with
    | nil => exact h.elim
    | cons s S =>
      obtain ⟨⟨b, off, c, rfl, hb, hr, hn⟩, h2⟩ := h
      refine ⟨⟨b, off, c, rfl, Nat.lt_of_lt_of_le hb hg.size, hr.kept hg hn, ?_⟩, ih h2⟩
      rcases ho with rfl | ⟨H, rfl, hH⟩
      · exact hn
      · intro e; injection e with e; omega
theorem Sl.snoc {w : World} {own : Option Nat} {us : List Value} {S : List (List (Int × Int))} (h : Sl w own us S) {b off c : Nat} {s : List (Int × Int)} (hb : b < w.heap.size) (hr : Rs w (some ⟨b, off, none⟩) s.length c s) (hn : own ≠ some b) :
    Sl w own (us ++ [.slice (some ⟨b, off, none⟩) s.length c]) (S ++ [s]) := by
  induction us generalizing S with
  | nil =>
    cases S with
    | nil => exact ⟨⟨b, off, c, rfl, hb, hr, hn⟩, trivial⟩
    | cons _ _ => exact h.elim
  | cons u us ih =>
    cases S with
    | nil => exact h.elim
    | cons s' S => exact ⟨h.1, ih h.2⟩
theorem Sl.get {w : World} {own : Option Nat} {us : List Value} {S : List (List (Int × Int))} (h : Sl w own us S) (i : Nat) (hi : i < S.length) :
    ∃ b off c, us[i]? = some (.slice (some ⟨b, off, none⟩) (S.getD i []).length c) ∧ Rs w (some ⟨b, off, none⟩) (S.getD i []).length c (S.getD i []) := by
  induction us generalizing S i with
  | nil => cases S <;> simp_all [Sl]
  | cons u us ih =>
    cases S with
    | nil => simp at hi
    | cons s S =>
      obtain ⟨⟨b, off, c, rfl, hb, hr, hn⟩, h2⟩ := h
      cases i with
      | zero => exact ⟨b, off, c, rfl, hr⟩
      | succ i => exact ih h2 i (by simpa using hi)

/-- slices of ranges in memory of the call's own -/
def Oq (w : World) (base : Nat) (v : Value) (S : List (List (Int × Int))) : Prop := ∃ us, w.ownsRow base 22 1 v S.length us ∧ Sl w v.ownBlock us S

theorem Oq.nil (w : World) (base : Nat) : Oq w base (.slice none 0 0) [] := ⟨[], World.ownsRow_nil _ _ _ _, trivial⟩
theorem Oq.later {w w' : World} {base : Nat} {v : Value} {S : List (List (Int × Int))} (h : Oq w base v S) (hb : Below w.heap.size w w') : Oq w' base v S := by
  obtain ⟨us, h1, h2⟩ := h
  exact ⟨us, own_later hb h1, h2.kept ((below_grown hb).but _) (.inl rfl)⟩
theorem Oq.mono {w : World} {base base' : Nat} {v : Value} {S : List (List (Int × Int))} (h : Oq w base v S) (hb : base' ≤ base) : Oq w base' v S := by
  obtain ⟨us, h1, h2⟩ := h
  exact ⟨us, own_mono h1 hb, h2⟩
theorem Oq.sq {w : World} {base : Nat} {v : Value} {S : List (List (Int × Int))} (h : Oq w base v S) : ∃ a cap, v = .slice a S.length cap ∧ Sq w a S.length cap S := by
  obtain ⟨us, h1, h2⟩ := h
  rcases h1.2 with ⟨rfl, h0⟩ | ⟨g, cap, cur, rfl, hb, hg, hn, hm, hs, ht⟩
  · have : S = [] := List.eq_nil_of_length_eq_zero h0
    subst this
    exact ⟨none, 0, rfl, rfl, Nat.le_refl _, Nat.zero_le _, fun i hi => by simp at hi⟩
  · refine ⟨_, cap, rfl, rfl, hn, hm, fun i hi => ?_⟩
    obtain ⟨b, off, c, e, hr⟩ := h2.get i hi
    refine ⟨g, 0, _, c, rfl, ?_, hr⟩
    rw [Nat.zero_add, h1.cellAt i (by omega), e]

/-- what is not of the row's own block stays as it was -/
def Keeps (W : World) (v0 : Value) (W' : World) (v : Value) : Prop := W.heap.size ≤ W'.heap.size ∧ ∀ k, k < W.heap.size → v0.ownBlock ≠ some k → W'.heap[k]? = W.heap[k]? ∧ v.ownBlock ≠ some k
theorem Keeps.refl (W : World) (v : Value) : Keeps W v W v := ⟨Nat.le_refl _, fun k _ h => ⟨rfl, h⟩⟩
theorem Keeps.step {W W' W'' : World} {v0 v v' : Value} (h : Keeps W v0 W' v) (hg : W'.grownBy W'' v.ownBlock) (ho : v'.ownBlock = v.ownBlock ∨ ∃ H, v'.ownBlock = some H ∧ W'.heap.size ≤ H) : Keeps W v0 W'' v' := by
  refine ⟨Nat.le_trans h.1 hg.size, fun k hk hn => ?_⟩
  obtain ⟨h1, h2⟩ := h.2 k hk hn
  refine ⟨(hg.block k (Nat.lt_of_lt_of_le hk h.1) (fun e => h2 e.symm)).trans h1, ?_⟩
  rcases ho with e | ⟨H, e, hH⟩
  · rw [e]; exact h2
  · rw [e]; intro e; injection e with e; have := h.1; omega
theorem Keeps.later {W W' W'' : World} {v0 v : Value} (h : Keeps W v0 W' v) (hb : Below W'.heap.size W' W'') : Keeps W v0 W'' v := h.step ((below_grown hb).but _) (.inl rfl)
theorem Keeps.cell {W W' : World} {v0 v : Value} (h : Keeps W v0 W' v) {k o : Nat} (hk : k < W.heap.size) (hn : v0.ownBlock ≠ some k) : W'.cell? ⟨k, o, none⟩ = W.cell? ⟨k, o, none⟩ := by
  have := (h.2 k hk hn).1
  simp only [World.cell?, this]
theorem Keeps.trans {W W' W'' : World} {v0 v v' : Value} (h : Keeps W v0 W' v) (k : Keeps W' v W'' v') : Keeps W v0 W'' v' :=
  ⟨Nat.le_trans h.1 k.1, fun j hj hn => by
    obtain ⟨h1, h2⟩ := h.2 j hj hn
    obtain ⟨k1, k2⟩ := k.2 j (Nat.lt_of_lt_of_le hj h.1) h2
    exact ⟨k1.trans h1, k2⟩⟩
theorem Ow.keeps {W W' : World} {v0 v : Value} (h : Keeps W v0 W' v) {base : Nat} {u : Value} {L : List (Int × Int)} (ho : Ow W base u L) (hn : u.ownBlock = none ∨ v0.ownBlock ≠ u.ownBlock) : Ow W' base u L := by
  refine ⟨ho.1, ?_⟩
  rcases ho.2 with h' | ⟨g, cap, cur, rfl, hb, hg, rest⟩
  · exact .inl h'
  · refine .inr ⟨g, cap, cur, rfl, hb, ?_, rest⟩
    have hlt : g < W.heap.size := (Array.getElem?_eq_some_iff.1 hg).1
    rcases hn with hn | hn
    · simp [Value.ownBlock] at hn
    · exact (h.2 g hlt hn).1.trans hg

/-- one slice more, appended -/
theorem Oq.snoc {w w1 : World} {base : Nat} {v : Value} {S : List (List (Int × Int))} {us : List Value} {b off c g cap H : Nat} {s : List (Int × Int)} (h2 : Sl w v.ownBlock us S) (hb : b < w.heap.size) (hr : Rs w (some ⟨b, off, none⟩) s.length c s) (hn : v.ownBlock ≠ some b)
    (ho : w1.ownsRow base 22 1 (.slice (some ⟨g, 0, none⟩) (S.length + 1) cap) (S.length + 1) (us ++ [.slice (some ⟨b, off, none⟩) s.length c])) (hg : w.grownBy w1 v.ownBlock) (hat : v.ownBlock = some g ∨ g = H) (hH : w.heap.size ≤ H) :
    Oq w1 base (.slice (some ⟨g, 0, none⟩) (S.length + 1) cap) (S ++ [s]) := by
  refine ⟨us ++ [.slice (some ⟨b, off, none⟩) s.length c], by rw [List.length_append]; exact ho, (h2.snoc hb hr hn).kept hg ?_⟩
  rcases hat with e | rfl
  · left; rw [e]; rfl
  · exact .inr ⟨g, rfl, hH⟩

/-- the package's row of widths lies as it was laid -/
def Wd (w : World) : Prop := ∃ t fr, w.heap[0]? = some (.cells #[.int .i64 0, .int .i64 127, .int .i64 1, .int .i64 128, .int .i64 2047, .int .i64 2, .int .i64 2048, .int .i64 55295, .int .i64 3, .int .i64 57344, .int .i64 65535, .int .i64 3, .int .i64 65536, .int .i64 1114111, .int .i64 4] t fr)
theorem Wd.later {w w' : World} (h : Wd w) {B : Nat} (hb : Below B w w') (hB : 0 < B) : Wd w' := by
  obtain ⟨t, fr, h⟩ := h
  exact ⟨t, fr, (hb.block 0 hB).trans h⟩
theorem Wd.pos {w : World} (h : Wd w) : 0 < w.heap.size := by
  obtain ⟨t, fr, h⟩ := h
  exact (Array.getElem?_eq_some_iff.1 h).1
theorem Wd.cell {w : World} (h : Wd w) (i : Nat) : w.cell? ⟨0, i, none⟩ = (#[.int .i64 0, .int .i64 127, .int .i64 1, .int .i64 128, .int .i64 2047, .int .i64 2, .int .i64 2048, .int .i64 55295, .int .i64 3, .int .i64 57344, .int .i64 65535, .int .i64 3, .int .i64 65536, .int .i64 1114111, .int .i64 4] : Array Value)[i]? := by
  obtain ⟨t, fr, h⟩ := h
  exact cell_of_row w 0 i _ t fr h

theorem widx0 (w : World) : (Instr.index 49 (.agg #[.int .i64 0, .int .i64 127, .int .i64 1, .int .i64 128, .int .i64 2047, .int .i64 2, .int .i64 2048, .int .i64 55295, .int .i64 3, .int .i64 57344, .int .i64 65535, .int .i64 3, .int .i64 65536, .int .i64 1114111, .int .i64 4]) (.int .i64 0)).run Tryd.prog w = .ok (.agg #[.int .i64 0, .int .i64 127, .int .i64 1]) w := by
  simp [Instr.index, asIntOf, run_underlying Tryd.underlying49, go_sem]
theorem widx1 (w : World) : (Instr.index 49 (.agg #[.int .i64 0, .int .i64 127, .int .i64 1, .int .i64 128, .int .i64 2047, .int .i64 2, .int .i64 2048, .int .i64 55295, .int .i64 3, .int .i64 57344, .int .i64 65535, .int .i64 3, .int .i64 65536, .int .i64 1114111, .int .i64 4]) (.int .i64 1)).run Tryd.prog w = .ok (.agg #[.int .i64 128, .int .i64 2047, .int .i64 2]) w := by
  simp [Instr.index, asIntOf, run_underlying Tryd.underlying49, go_sem]
theorem widx2 (w : World) : (Instr.index 49 (.agg #[.int .i64 0, .int .i64 127, .int .i64 1, .int .i64 128, .int .i64 2047, .int .i64 2, .int .i64 2048, .int .i64 55295, .int .i64 3, .int .i64 57344, .int .i64 65535, .int .i64 3, .int .i64 65536, .int .i64 1114111, .int .i64 4]) (.int .i64 2)).run Tryd.prog w = .ok (.agg #[.int .i64 2048, .int .i64 55295, .int .i64 3]) w := by
  simp [Instr.index, asIntOf, run_underlying Tryd.underlying49, go_sem]
theorem widx3 (w : World) : (Instr.index 49 (.agg #[.int .i64 0, .int .i64 127, .int .i64 1, .int .i64 128, .int .i64 2047, .int .i64 2, .int .i64 2048, .int .i64 55295, .int .i64 3, .int .i64 57344, .int .i64 65535, .int .i64 3, .int .i64 65536, .int .i64 1114111, .int .i64 4]) (.int .i64 3)).run Tryd.prog w = .ok (.agg #[.int .i64 57344, .int .i64 65535, .int .i64 3]) w := by
  simp [Instr.index, asIntOf, run_underlying Tryd.underlying49, go_sem]
theorem widx4 (w : World) : (Instr.index 49 (.agg #[.int .i64 0, .int .i64 127, .int .i64 1, .int .i64 128, .int .i64 2047, .int .i64 2, .int .i64 2048, .int .i64 55295, .int .i64 3, .int .i64 57344, .int .i64 65535, .int .i64 3, .int .i64 65536, .int .i64 1114111, .int .i64 4]) (.int .i64 4)).run Tryd.prog w = .ok (.agg #[.int .i64 65536, .int .i64 1114111, .int .i64 4]) w := by
  simp [Instr.index, asIntOf, run_underlying Tryd.underlying49, go_sem]

/-- the row's k-th width -/
theorem widx (k : Nat) (hk : k < 5) : ∃ (x y : Int) (n : Nat), (n ≤ 3 ∧ 0 ≤ x ∧ x ≤ 1114111 ∧ 0 ≤ y ∧ y ≤ 1114111) ∧ (∀ w : World, (Instr.index 49 (.agg #[.int .i64 0, .int .i64 127, .int .i64 1, .int .i64 128, .int .i64 2047, .int .i64 2, .int .i64 2048, .int .i64 55295, .int .i64 3, .int .i64 57344, .int .i64 65535, .int .i64 3, .int .i64 65536, .int .i64 1114111, .int .i64 4]) (.int .i64 k)).run Tryd.prog w = .ok (.agg #[.int .i64 x, .int .i64 y, .int .i64 (n + 1)]) w) ∧ Q.widthL.take (k + 1) = Q.widthL.take k ++ [((x, y), bysOf n)] := by
  have : k = 0 ∨ k = 1 ∨ k = 2 ∨ k = 3 ∨ k = 4 := by omega
  rcases this with rfl | rfl | rfl | rfl | rfl
  · exact ⟨0, 127, 0, by omega, widx0, rfl⟩
  · exact ⟨128, 2047, 1, by omega, widx1, rfl⟩
  · exact ⟨2048, 55295, 2, by omega, widx2, rfl⟩
  · exact ⟨57344, 65535, 2, by omega, widx3, rfl⟩
  · exact ⟨65536, 1114111, 3, by omega, widx4, rfl⟩

theorem of_take {N : List (Int × Int)} {i : Nat} {lo hi : Int} (h : N.take (i + 1) = N.take i ++ [(lo, hi)]) : Q.ofN (N.take (i + 1)) = Q.ofN (N.take i) ++ (Q.oneL (lo, hi)).map Q.seqL := by
  rw [h]; simp [Q.ofN, Q.partsL]
/-- what the first j widths give of a range -/
def ofW (j : Nat) (r : Int × Int) : List (List (Int × Int)) := ((Q.widthL.take j).flatMap fun w => Q.piecesL w r).map Q.seqL
theorem ofW_zero (r : Int × Int) : ofW 0 r = [] := rfl
theorem ofW_five (r : Int × Int) : ofW 5 r = (Q.oneL r).map Q.seqL := rfl
theorem ofW_step {j : Nat} {w : (Int × Int) × List Int} (h : Q.widthL.take (j + 1) = Q.widthL.take j ++ [w]) (r : Int × Int) : ofW (j + 1) r = ofW j r ++ (Q.piecesL w r).map Q.seqL := by
  unfold ofW; rw [h]; simp
theorem map_take {P : List (Int × Int)} {i : Nat} {p : Int × Int} (h : P.take (i + 1) = P.take i ++ [p]) : (P.take (i + 1)).map Q.seqL = (P.take i).map Q.seqL ++ [Q.seqL p] := by
  rw [h]; simp
theorem piece_told {j : Nat} {w : (Int × Int) × List Int} (h : Q.widthL.take (j + 1) = Q.widthL.take j ++ [w]) {r p : Int × Int} (hp : p ∈ Q.piecesL w r) : p.1 ≤ p.2 ∧ Q.Told p := by
  have hw : w ∈ Q.widthL := List.mem_of_mem_take (i := j + 1) (by rw [h]; simp)
  have hm : p ∈ Q.partsL [r] := by
    unfold Q.partsL
    rw [List.flatMap_cons]
    exact List.mem_append_left _ (List.mem_flatMap.2 ⟨w, hw, hp⟩)
  exact ⟨(Q.parts_mem hm).1, Q.told hm⟩


set_option maxRecDepth 20000 in
set_option maxHeartbeats 4000000 in
theorem of_any (a : Option Addr) (len cap : Nat) (L : List (Int × Int)) (w : World) (h : Rs w a len cap L) (hs : len ≤ 1000000) (hW : Wd w) :
    Calls Tryd.prog 13 #[.slice a len cap] w fun e w' => ∃ N v, G.Is N (nrm L) ∧ e = .returned v ∧ Oq w' w.heap.size v (Q.ofN N) ∧ Below w.heap.size w w' := by
  have C := hideR (normAn a len cap L w h hs)
  have PC := hideR pieces_any
  have SC := hideR seq_any
  obtain ⟨i0, hi0, hz0, hz1, hz2⟩ := info_parts infoSl
  have HW := hideR hW
  clear h hW
  go_enter Tryd.func13, Tryd.ntmps13
  go_wp2_with fail
  refine (unhideR C).mono ?_
  rintro e w1 ⟨a1, l1, k1, N, rfl, r1, i1, b1⟩
  have hmax := r1.hmax
  have hcap := r1.hcap
  have hl1 := r1.hlen
  unfold maxLen at hmax
  have hNl := G.may_length i1.1
  have HI := hideR i1
  have HB := hideR b1
  have HR := hideR r1
  have HW1 := hideR ((unhideR HW).later b1 (unhideR HW).pos)
  have hsz := b1.size
  clear i1 b1 C r1 HW
  go_wp2_with fail
  go_loopw [3, 13] (fun v i wr => ∃ (m : Nat) (out : List (List (Int × Int))), m ≤ l1 ∧ i = .int .i64 m ∧ Hid (out = Q.ofN (N.take m)) ∧ out.length ≤ 135 * m ∧ Hid (Oq wr w1.heap.size v out) ∧ Below w1.heap.size w1 wr) (fun _ i _ => l1 - (intOf i).toNat)
  case atStart => exact ⟨0, [], Nat.zero_le _, rfl, by show [] = _; simp [Q.ofN, Q.partsL], Nat.le_refl _, Oq.nil _ _, Below.refl _ _⟩
  case round =>
    obtain ⟨m, out, hm, rfl, ho, hol, hown, hb⟩ := hrel
    by_cases hlt : m < l1
    · obtain ⟨b, off, rfl, hr⟩ := ((unhideR HR).later hb (Nat.le_refl _)).open (by omega)
      obtain ⟨lo, hi, hdr, hd, f1, f2, c0, c1⟩ := hr.at m hlt
      have hmem := G.may_mem (unhideR HI).1 (r := (lo, hi)) (List.mem_of_mem_drop (by rw [hdr]; simp))
      simp only at hmem
      obtain ⟨m0, m1, m2⟩ := hmem
      have HD := hideR (of_take hd)
      have hWr := (unhideR HW1).later hb (unhideR HW1).pos
      have hp0 := hWr.pos
      have g0 : wr.cell? ⟨0, 0, none⟩ = some (.int .i64 0) := by rw [hWr.cell]; rfl
      have g1 : wr.cell? ⟨0, 1, none⟩ = some (.int .i64 127) := by rw [hWr.cell]; rfl
      have g2 : wr.cell? ⟨0, 2, none⟩ = some (.int .i64 1) := by rw [hWr.cell]; rfl
      have g3 : wr.cell? ⟨0, 3, none⟩ = some (.int .i64 128) := by rw [hWr.cell]; rfl
      have g4 : wr.cell? ⟨0, 4, none⟩ = some (.int .i64 2047) := by rw [hWr.cell]; rfl
      have g5 : wr.cell? ⟨0, 5, none⟩ = some (.int .i64 2) := by rw [hWr.cell]; rfl
      have g6 : wr.cell? ⟨0, 6, none⟩ = some (.int .i64 2048) := by rw [hWr.cell]; rfl
      have g7 : wr.cell? ⟨0, 7, none⟩ = some (.int .i64 55295) := by rw [hWr.cell]; rfl
      have g8 : wr.cell? ⟨0, 8, none⟩ = some (.int .i64 3) := by rw [hWr.cell]; rfl
      have g9 : wr.cell? ⟨0, 9, none⟩ = some (.int .i64 57344) := by rw [hWr.cell]; rfl
      have g10 : wr.cell? ⟨0, 10, none⟩ = some (.int .i64 65535) := by rw [hWr.cell]; rfl
      have g11 : wr.cell? ⟨0, 11, none⟩ = some (.int .i64 3) := by rw [hWr.cell]; rfl
      have g12 : wr.cell? ⟨0, 12, none⟩ = some (.int .i64 65536) := by rw [hWr.cell]; rfl
      have g13 : wr.cell? ⟨0, 13, none⟩ = some (.int .i64 1114111) := by rw [hWr.cell]; rfl
      have g14 : wr.cell? ⟨0, 14, none⟩ = some (.int .i64 4) := by rw [hWr.cell]; rfl
      clear hdr hd hr hWr f1 f2
      have ob : ∀ k, u3.ownBlock = some k → k < wr.heap.size := fun k hk => by obtain ⟨us, h1, _⟩ := hown.out; exact (h1.lt k hk).2
      have hbs := hb.size
      have hown' : Hid (Oq (wr.alloc (boxRg lo hi)) w1.heap.size u3 out) := hown.out.later (Below.new1 _)
      have hb' : Below w1.heap.size w1 (wr.alloc (boxRg lo hi)) := hb.alloc hb.size _
      have q0 : (wr.alloc (boxRg lo hi)).cell? ⟨wr.heap.size, 0, none⟩ = some (.int .i64 lo) := by rw [World.cell?_alloc_at _ _ _ _ rfl]; rfl
      have q1 : (wr.alloc (boxRg lo hi)).cell? ⟨wr.heap.size, 1, none⟩ = some (.int .i64 hi) := by rw [World.cell?_alloc_at _ _ _ _ rfl]; rfl
      have Q0 := hideR q0
      have Q1 := hideR q1
      have hne : Hid (u3.ownBlock ≠ some wr.heap.size) := fun e => by have := ob _ e; omega
      clear q0 q1 ob hown
      go_wp2_with fail
      clear g0 g1 g2 g3 g4 g5 g6 g7 g8 g9 g10 g11 g12 g13 g14 c0 c1
      have hk5 : wr.heap.size < (wr.alloc (boxRg lo hi)).heap.size := by simp
      generalize hk5e : wr.heap.size = k5 at *
      generalize wr.alloc (Obj.cells #[Value.int IntKind.i64 lo, Value.int IntKind.i64 hi] 41) = W1 at *
      generalize u3 = v0 at *
      clear hb hbs hk5e
      go_loopw [3, 18] (fun v i wr => ∃ (j : Nat) (out2 : List (List (Int × Int))), j ≤ 5 ∧ i = .int .i64 j ∧ Hid (out2 = out ++ ofW j (lo, hi)) ∧ out2.length ≤ 135 * m + 27 * j ∧ Hid (Oq wr w1.heap.size v out2) ∧ Below w1.heap.size w1 wr ∧ Hid (Keeps W1 v0 wr v)) (fun _ i _ => 5 - (intOf i).toNat)
      case atStart => exact ⟨0, out, Nat.zero_le _, rfl, by show _ = _; rw [ofW_zero, List.append_nil], by omega, hown', hb', Keeps.refl _ _⟩
      case round =>
        clear hown' hb'
        obtain ⟨j, out2, hj, rfl, ho2, hol2, hown2, hb2, hK2⟩ := hrel
        by_cases hlt2 : j < 5
        · obtain ⟨x, y, n, ⟨n0, n1, n2, n3, n4⟩, hidx, hwt⟩ := widx j hlt2
          have p0 : wr.cell? ⟨k5, 0, none⟩ = some (.int .i64 lo) := (hK2.out.cell hk5 hne.out).trans Q0.out
          have p1 : wr.cell? ⟨k5, 1, none⟩ = some (.int .i64 hi) := (hK2.out.cell hk5 hne.out).trans Q1.out
          have hk5' : k5 < wr.heap.size := block_lt' p0
          have HWT := hideR hwt
          clear hwt
          go_wp2_with fail
          refine (unhideR PC x y n n0 n1 n2 n3 n4 lo hi m0 m1 m2 _).mono ?_
          rintro e W3 ⟨⟨v3, rfl, ho3, hb3⟩, h27⟩
          have HP : Hid (∀ p ∈ Q.piecesL ((x, y), bysOf n) (lo, hi), p.1 ≤ p.2 ∧ Q.Told p) := fun p hp => piece_told (unhideR HWT) hp
          have HS := hideR (ofW_step (unhideR HWT) (lo, hi))
          generalize Q.piecesL ((x, y), bysOf n) (lo, hi) = P at ho3 h27 HP HS
          have Pf : ∀ r ∈ P, fits r.1 ∧ fits r.2 := fun r hr => by
            have t := HP.out r hr
            have t1 := (U.may_iff r.1).1 (t.2.hmay r.1 (Int.le_refl _) t.1)
            have t2 := (U.may_iff r.2).1 (t.2.hmay r.2 t.1 (Int.le_refl _))
            unfold fits; omega
          have PF := hideR Pf
          have hownA := (hown2.out.later (Below.new1 _)).later hb3
          have ob : ∀ k, u3.ownBlock = some k → k < wr.heap.size := fun k hk => by obtain ⟨us, h1, _⟩ := hown2.out; exact (h1.lt k hk).2
          have hKA := (hK2.out.later (Below.new1 _)).later hb3
          have hnP : v3.ownBlock = none ∨ u3.ownBlock ≠ v3.ownBlock := by
            rcases hv : v3.ownBlock with _ | g
            · exact .inl rfl
            · right
              intro e
              have h1 := ob g e
              have h2 := (ho3.lt g hv).1
              simp only [World.size_alloc] at h2
              omega
          have hbA : Below w1.heap.size w1 W3 := hb2.trans (((Below.new1 _).mono hb2.size).trans (hb3.mono (by simp only [World.size_alloc]; have := hb2.size; omega)))
          have HO3 := hideR ho3
          have HNP := hideR hnP
          have HKA := hideR hKA
          have HOA := hideR hownA
          obtain ⟨a3, c3, rfl, rs3⟩ := ho3.rs Pf
          have hmax3 := rs3.hmax
          have hcap3 := rs3.hcap
          unfold maxLen at hmax3
          clear hb3 ho3 hnP hKA hownA rs3 Pf p0 p1 hidx hown2 hK2 ob n0 n1 n2 n3 n4 hk5'
          go_wp2_with fail
          generalize u3 = v1 at *
          go_loopw [3, 25] (fun v i wr => ∃ (q : Nat) (out3 : List (List (Int × Int))), q ≤ P.length ∧ i = .int .i64 q ∧ Hid (out3 = out2 ++ (P.take q).map Q.seqL) ∧ out3.length ≤ 135 * m + 27 * j + q ∧ Hid (Oq wr w1.heap.size v out3) ∧ Below w1.heap.size w1 wr ∧ Hid (Keeps W3 v1 wr v)) (fun _ i _ => P.length - (intOf i).toNat)
          case atStart => exact ⟨0, out2, Nat.zero_le _, rfl, by show _ = _; simp, by omega, unhideR HOA, hbA, Keeps.refl _ _⟩
          case round =>
            clear HOA hbA
            obtain ⟨q, out3, hq, rfl, ho3, hol3, hown3, hb3, hK3⟩ := hrel
            by_cases hlt3 : q < P.length
            · have hoP := Ow.keeps hK3.out (unhideR HO3) (unhideR HNP)
              obtain ⟨a4, c4, e4, rs4⟩ := hoP.rs (unhideR PF)
              injection e4 with e5 e6 e7
              subst e5; subst e7
              obtain ⟨b6, off6, rfl, hr6⟩ := rs4.open (by omega)
              obtain ⟨lo', hi', hdr, hd, f1, f2, c0, c1⟩ := hr6.at q hlt3
              have tp := HP.out (lo', hi') (List.mem_of_mem_drop (by rw [hdr]; simp))
              have tl := tp.2.hlen
              have t1 := hideR (tp.2.hmay lo' (Int.le_refl _) tp.1)
              have t2 := hideR (tp.2.hmay hi' tp.1 (Int.le_refl _))
              have t3 := hideR tp.2.hsame
              have st : Hid (out3 ++ [Q.seqL (lo', hi')] = out2 ++ (P.take (q + 1)).map Q.seqL) := by
                show _ = _
                rw [map_take hd, ho3.out, List.append_assoc]
              have sf : Hid (∀ r ∈ Q.seqL (lo', hi'), fits r.1 ∧ fits r.2) := fun r hr => by
                have := tp.2.hbyte r hr
                unfold fits; omega
              have ob : Hid (∀ k, u3.ownBlock = some k → k < wr.heap.size) := fun k hk => by obtain ⟨us, h1, _⟩ := hown3.out; exact (h1.lt k hk).2
              clear hoP rs4 hr6 hdr hd tp ho3 f1 f2
              go_wp2_with fail
              refine (unhideR SC lo' hi' _ (unhideR t1) (unhideR t2) (unhideR t3)).mono ?_
              rintro e w4 ⟨v4, rfl, ho4, hb4⟩
              have hs4 := hb4.size
              have hlt4 := ho4.lt
              obtain ⟨g4, c5, rfl, hcs⟩ := ho4.block tl.1
              have hg4 := hlt4 g4 rfl
              simp only [World.size_alloc] at hg4 hs4
              obtain ⟨a7, c7, e7, rs7⟩ := ho4.rs sf.out
              injection e7 with e8 e9 e10
              subst e8; subst e10
              generalize Q.seqL (lo', hi') = s4 at *
              obtain ⟨us, o1, o2⟩ := ((hown3.out.later (Below.new1 _)).later hb4).later (Below.new1 (.cells #[.slice (some ⟨g4, 0, none⟩) s4.length c5] 22))
              have rs8 := rs7.later (Below.new1 (.cells #[.slice (some ⟨g4, 0, none⟩) s4.length c5] 22)) (Nat.le_refl _)
              have kk := ((hK3.out.later (Below.new1 _)).later hb4).later (Below.new1 (.cells #[.slice (some ⟨g4, 0, none⟩) s4.length c5] 22))
              have hne4 : u3.ownBlock ≠ some g4 := fun e => by have := ob.out g4 e; omega
              have hb5 : Below w1.heap.size w1 (w4.alloc (.cells #[.slice (some ⟨g4, 0, none⟩) s4.length c5] 22)) := (hb3.trans (((Below.new1 _).mono hb3.size).trans (hb4.mono (by simp only [World.size_alloc]; have := hb3.size; omega)))).alloc (by have := hb3.size; omega) _
              have hb3s := hb3.size
              have nw : ∀ (i : Nat) (u : Value), [Value.slice (some ⟨g4, 0, none⟩) s4.length c5][i]? = some u → (w4.alloc (.cells #[.slice (some ⟨g4, 0, none⟩) s4.length c5] 22)).cell? ((⟨w4.heap.size, 0, none⟩ : Addr).add i) = some u :=
                World.news_of_block (cs := #[.slice (some ⟨g4, 0, none⟩) s4.length c5]) (t := 22) (fr := (0, 0)) (heap_alloc_new w4 _)
              have RS8 := hideR rs8
              have KK := hideR kk
              have O2 := hideR o2
              clear hb4 hlt4 hcs rs7 rs8 kk o2 hown3 hK3 hb3 ho4 c0 c1 t1 t2 t3 sf ob
              go_wp2_with (at_builtin; refine wpList_append_lies _ rfl _ _ 23 rfl w1.heap.size 22 i0 _ 1 24 Tryd.underlying23 hi0 hz0 hz1 hz2 rfl (by omega) _ _ _ rfl o1 ⟨w4.heap.size, 0, none⟩ 1 1 [.slice (some ⟨g4, 0, none⟩) s4.length c5] rfl rfl nw (by simp [Value.oneCell']) (by omega) (by unfold maxLen; omega) (by omega) (by simp; omega) (w4.heap.size + 1) (by simp) ?_; intro gg cap1 w5 hown5 hgrow hat hlt5)
              go_roundw
              case rel =>
                refine ⟨q + 1, out3 ++ [s4], by omega, by go_num, st, by rw [List.length_append]; simp only [List.length_cons, List.length_nil]; omega, Oq.snoc (unhideR O2) (by simp; omega) (unhideR RS8) hne4 hown5 hgrow hat (by simp), below_grow o1 hb5 (by simp; omega) hgrow, (unhideR KK).step hgrow ?_⟩
                rcases hat with e | e
                · exact .inl e.symm
                · exact .inr ⟨gg, rfl, by rw [e]; simp⟩
              case measure => simp [intOf]; omega
            · obtain rfl : q = P.length := by omega
              have fin : Hid (out3 = out ++ ofW (j + 1) (lo, hi)) := by
                show _ = _
                rw [ho3.out, unhideR HS, ho2.out, List.take_length, List.append_assoc]
              clear ho3 HS
              go_wp2_with fail
              go_roundw
              case rel => exact ⟨j + 1, out3, by omega, by go_num, fin, by omega, hown3, hb3, (unhideR HKA).trans hK3.out⟩
              case measure => simp [intOf]; omega
        · obtain rfl : j = 5 := by omega
          have fin : Hid (out2 = Q.ofN (N.take (m + 1))) := by
            show _ = _
            rw [ho2.out, ho.out, ofW_five, unhideR HD]
          clear ho2
          go_wp2_with fail
          go_roundw
          case rel => exact ⟨m + 1, out2, by omega, by go_num, fin, by omega, hown2, hb2⟩
          case measure => simp [intOf]; omega
    · have fin := hideR (show out = Q.ofN N by rw [ho.out, List.take_of_length_le (by omega)])
      clear ho
      go_wp2_with fail
      go_ret
      refine ⟨N, _, unhideR HI, rfl, ?_, (unhideR HB).trans (hb.mono hsz)⟩
      rw [← unhideR fin]
      exact hown.out.mono hsz

end Go.Proofs.YtejipaapbfjooaaDoor
