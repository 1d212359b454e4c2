/- Contracts of package token: literals. -/
import Derived.Test.YtdaadeohamkoiaaGreatDoorTkK
import Derived.Test.YtdaadeohamkoiaaGreatDoorTkRefC
namespace Go.Proofs.YtdaadeohamkoiaaGreatDoor.T
open Go.RowKit
set_option linter.unusedVariables false
set_option linter.unusedSimpArgs false

def piecesF : Nat → List Int → List Int × Nat
  | 0, _ => ([], 0)
  | f + 1, r => match pieceP r with
    | none => ([], 0)
    | some (x, n) => (x :: (piecesF f (r.drop n)).1, n + (piecesF f (r.drop n)).2)
theorem pieceP_nil : pieceP [] = none := by decide
theorem pieceP_good {r : List Int} {x : Int} {n : Nat} (hb : U.isBytes r) (h : pieceP r = some (x, n)) : (1 ≤ n ∧ n ≤ r.length) ∧ 0 ≤ x ∧ x ≤ 255 := by
  unfold pieceP at h
  split at h
  · cases h
  · exact ⟨piece_good r x n hb h, piece_byte h⟩
theorem piecesF_nil : ∀ f, piecesF f [] = ([], 0) := by
  intro f
  cases f with
  | zero => rfl
  | succ f => simp only [piecesF, pieceP_nil]
theorem pieces_fuel : ∀ (f g : Nat) (r : List Int), U.isBytes r → r.length ≤ f → r.length ≤ g → piecesF f r = piecesF g r := by
  intro f
  induction f with
  | zero =>
    intro g r hb h1 h2
    have : r = [] := List.eq_nil_of_length_eq_zero (by omega)
    subst this
    rw [piecesF_nil, piecesF_nil]
  | succ f ih =>
    intro g r hb h1 h2
    cases g with
    | zero =>
      have : r = [] := List.eq_nil_of_length_eq_zero (by omega)
      subst this
      rw [piecesF_nil, piecesF_nil]
    | succ g =>
      simp only [piecesF]
      cases e : pieceP r with
      | none => rfl
      | some p =>
        obtain ⟨x, n⟩ := p
        have := pieceP_good hb e
        simp only
        rw [ih g (r.drop n) (U.isBytes_drop hb n) (by rw [List.length_drop]; omega) (by rw [List.length_drop]; omega)]
def piecesG (r : List Int) : List Int × Nat := piecesF r.length r
theorem pieces_no {r : List Int} (h : pieceP r = none) : piecesG r = ([], 0) := by
  unfold piecesG
  cases e : r.length with
  | zero => rfl
  | succ f => simp only [piecesF, h]
theorem pieces_yes {r : List Int} (hb : U.isBytes r) {x : Int} {n : Nat} (h : pieceP r = some (x, n)) : piecesG r = (x :: (piecesG (r.drop n)).1, n + (piecesG (r.drop n)).2) := by
  have hn := pieceP_good hb h
  unfold piecesG
  obtain ⟨k, hk⟩ : ∃ k, r.length = k + 1 := ⟨r.length - 1, by omega⟩
  rw [hk]
  simp only [piecesF, h]
  rw [pieces_fuel k (r.drop n).length (r.drop n) (U.isBytes_drop hb n) (by rw [List.length_drop]; omega) (Nat.le_refl _)]
theorem pieces_gather : ∀ (f : Nat) (r : List Int), U.isBytes r → r.length ≤ f →
    gatherL pieceL 34 r = if (r.drop (piecesG r).2).getD 0 0 = 34 then some ((piecesG r).1, (piecesG r).2 + 1) else none := by
  intro f
  induction f with
  | zero =>
    intro r hb h
    have : r = [] := List.eq_nil_of_length_eq_zero (by omega)
    subst this
    rw [pieces_no pieceP_nil, gather_nil, if_neg (by simp [List.getD])]
  | succ f ih =>
    intro r hb h
    by_cases hr : r = []
    · subst hr
      rw [pieces_no pieceP_nil, gather_nil, if_neg (by simp [List.getD])]
    · by_cases hst : r.getD 0 0 = 34
      · rw [pieces_no (by unfold pieceP; rw [if_pos hst]), gather_stop hr hst, List.drop_zero, if_pos hst]
      · have epl : pieceP r = pieceL r := by unfold pieceP; rw [if_neg hst]
        cases e : pieceL r with
        | none => rw [gather_bad hr hst e, pieces_no (epl.trans e), List.drop_zero, if_neg hst]
        | some p =>
          obtain ⟨x, n⟩ := p
          have hn := piece_good r x n hb e
          rw [gather_step piece_good hb hr hst e, ih (r.drop n) (U.isBytes_drop hb n) (by rw [List.length_drop]; omega), pieces_yes hb (epl.trans e), List.drop_drop]
          by_cases cc : (List.drop (n + (piecesG (r.drop n)).2) r).getD 0 0 = 34
          · rw [if_pos cc, if_pos cc]
            simp only [Option.some.injEq, Prod.mk.injEq, true_and]
            omega
          · rw [if_neg cc, if_neg cc]
theorem tok_lits {l : List Int} (hb : U.isBytes l) (h : l.getD 0 0 = 34) : tokL l = if (piecesG (l.drop 1)).1 ≠ [] ∧ (l.drop (1 + (piecesG (l.drop 1)).2)).getD 0 0 = 34 then some ((1, (piecesG (l.drop 1)).1, []), (piecesG (l.drop 1)).2 + 2) else none := by
  unfold tokL
  rw [h, if_neg (by decide), if_neg (by omega), if_neg (by decide), if_pos rfl, pieces_gather _ _ (U.isBytes_drop hb 1) (Nat.le_refl _), List.drop_drop]
  by_cases c : (List.drop (1 + (piecesG (l.drop 1)).2) l).getD 0 0 = 34
  · rw [if_pos c]
    simp only
    by_cases c2 : (piecesG (l.drop 1)).1 = []
    · rw [if_pos c2, if_neg (fun x => x.1 c2)]
    · rw [if_neg c2, if_pos ⟨c2, c⟩]
  · rw [if_neg c, if_neg (fun x => c x.2)]
theorem st_quote : St ⟨#[34]⟩ [34] := ⟨rfl, by intro z hz; simp at hz; omega⟩
set_option maxRecDepth 20000 in
set_option maxHeartbeats 4000000 in
theorem lit_l (a : Option Addr) (len cap : Nat) (l : List Int) (w : World) (h : Bs w a len cap l) (hl : len ≤ 100000) (hp : 1 ≤ len) (h0 : l.getD 0 0 = 34) :
    Calls Tryz.prog 45 #[.slice a len cap] w fun e w' => ∃ v n, e = .returned (.tuple #[v, .int .i64 (n : Nat)]) ∧ TokO w' v n (tokL l) ∧ Below w.heap.size w w' := by
  rw [tok_lits h.hbytes h0]
  generalize hO : (if (piecesG (l.drop 1)).1 ≠ [] ∧ (l.drop (1 + (piecesG (l.drop 1)).2)).getD 0 0 = 34 then some (((1, (piecesG (l.drop 1)).1, []) : Tk), (piecesG (l.drop 1)).2 + 2) else none) = O
  have HQ := hideR hO
  clear hO
  have hlen := h.hlen
  have hcap := h.hcap
  have HBB := hideR h.hbytes
  have HB := hideR (Bs.later h (Below.new1 zTok) (Nat.le_refl _))
  obtain ⟨ti, hi0, hz0, hz1, hz2⟩ := info_parts info_byte
  clear h h0
  unfold zTok at HB
  have hw0 : (w.alloc (.cells #[.int .i64 0, .string ⟨#[]⟩, .slice none 0 0, .int .i64 0] 24)).heap.size = w.heap.size + 1 := by simp
  go_enter Tryz.func45, Tryz.ntmps45
  go_wp2_with fail
  generalize hW : w.alloc (.cells #[.int .i64 0, .string ⟨#[]⟩, .slice none 0 0, .int .i64 0] 24) = W0 at *
  go_loopw [4, 5] (fun v j wr => ∃ (k : Nat) (acc : List Int), 1 ≤ k ∧ k ≤ len ∧ acc.length ≤ k ∧ j = .int .i64 (k : Int) ∧ U.isBytes acc ∧ Hid (piecesG (l.drop 1) = (acc ++ (piecesG (l.drop k)).1, (k - 1) + (piecesG (l.drop k)).2)) ∧ wr.ownsRow W0.heap.size 5 1 v acc.length (acc.map (Value.int .u8)) ∧ Below W0.heap.size W0 wr) (fun _ j _ => len - (intOf j).toNat)
  case atStart => exact ⟨1, [], Nat.le_refl _, hp, by simp, rfl, (fun z hz => by cases hz), by show _ = _; simp, World.ownsRow_nil _ _ _ _, Below.refl _ _⟩
  case round =>
    obtain ⟨k, acc, hk1, hk, hok, rfl, hby, hg, hown, hb⟩ := hrel
    have hB := Bs.later (unhideR HB) hb (Nat.le_refl _)
    have sl := tail_run a len cap k k rfl hk
    have CP := hideR (piece_l _ _ _ _ wr (Bs.dropA hB k hk) (by omega))
    have HO := hideR hown
    have HBW := hideR hB
    have hws := hb.size
    cases e1 : pieceP (l.drop k) with
    | none =>
      have HG : Hid (piecesG (l.drop 1) = (acc, k - 1)) := by
        show _ = _
        rw [hg.out, pieces_no e1]
        simp
      rw [e1] at CP
      replace CP : Hid (Calls Tryz.prog 76 #[.slice (dropA a cap k) (len - k) (cap - k)] wr fun e w' => e = .returned (.tuple #[.int .u8 0, .int .i64 0]) ∧ Below wr.heap.size wr w') := CP
      clear e1 hg HB hB hown HBB
      have HQ2 : Hid ((if acc ≠ [] ∧ (l.drop k).getD 0 0 = 34 then some (((1, acc, []) : Tk), k - 1 + 2) else none) = O) := by
        have := unhideR HQ
        rw [unhideR HG] at this
        simp only at this
        rw [show 1 + (k - 1) = k by omega] at this
        exact this
      clear HQ
      by_cases ca : acc = []
      · subst ca
        have eO : O = none := by rw [← unhideR HQ2, if_neg (fun x => x.1 rfl)]
        have EO := hideR eO
        clear HQ2 eO
        obtain ⟨p4, c4, e4, -⟩ := Bs.ofOwn hby (unhideR HO)
        simp only [List.length_nil] at e4
        clear HO
        subst e4
        go_wp2_with fail
        refine (unhideR CP).mono ?_
        rintro e w1 ⟨rfl, b1⟩
        clear CP
        have B3 := hb.trans (b1.mono hws)
        have HG2 : w1.heap[w.heap.size]? = some (.cells #[.int .i64 0, .string ⟨#[]⟩, .slice none 0 0, .int .i64 0] 24) := by rw [← hW] at B3; exact kept_new B3
        have B4 : Below w.heap.size w w1 := by rw [← hW] at B3; exact (Below.new1 _).trans (B3.mono (by simp))
        obtain ⟨⟨q0, q1, q2, q3⟩, f0, f1, f2, f3⟩ := cells4 HG2
        go_wp2_with fail
        (try simp only [Exit.inBlock, Exit.then])
        refine bodyPost_ret (v := .tuple #[zeroTok, .int .i64 (0 : Nat)]) ?_ rfl ⟨_, _, rfl, .inl ⟨unhideR EO, rfl, rfl⟩, ?_⟩
        · rw [results_cell_tmp rfl]
          go_simp
          try rfl
        · exact set4 B4 (Nat.le_refl _) _ _ _ _
      · have hal : 1 ≤ acc.length := by cases acc <;> simp_all
        have tl : ((acc.length : Int) == 0) = false := beq_eq_false_iff_ne.2 (by omega)
        have t2 := wrapI ((k : Int) + 1) (by omega)
        have CB := hideR (fun W (hB : Bs W a len cap l) => begins_l _ _ _ _ W (Bs.dropA hB k hk) ⟨#[34]⟩ [34] st_quote (by simp))
        rw [pre1_eq (by omega)] at CB
        obtain ⟨p4, c4, e4, -⟩ := Bs.ofOwn hby (unhideR HO)
        subst e4
        by_cases cq : (l.drop k).getD 0 0 = 34
        · have eO : O = some ((1, acc, []), k - 1 + 2) := by rw [← unhideR HQ2, if_pos ⟨ca, cq⟩]
          have EO := hideR eO
          clear HQ2 eO
          rw [decide_eq_true cq] at CB
          clear cq ca
          go_wp2_with fail
          refine (unhideR CP).mono ?_
          rintro e w1 ⟨rfl, b1⟩
          have HB1 := hideR (Bs.later (unhideR HBW) b1 (Nat.le_refl _))
          have HO1 := hideR (ownL b1 (unhideR HO))
          clear CP HO HBW
          go_wp2_with fail
          refine (unhideR CB _ (unhideR HB1)).mono ?_
          rintro e w2 ⟨rfl, b2⟩
          have ho2 := ownL b2 (unhideR HO1)
          clear CB HO1 HB1
          have B3 := (hb.trans (b1.mono hws)).trans (b2.mono (by have := b1.size; omega))
          have HG2 : w2.heap[w.heap.size]? = some (.cells #[.int .i64 0, .string ⟨#[]⟩, .slice none 0 0, .int .i64 0] 24) := by rw [← hW] at B3; exact kept_new B3
          have B4 : Below w.heap.size w w2 := by rw [← hW] at B3; exact (Below.new1 _).trans (B3.mono (by simp))
          obtain ⟨⟨q0, q1, q2, q3⟩, f0, f1, f2, f3⟩ := cells4 HG2
          obtain ⟨p5, c5, e5, bs5⟩ := Bs.ofOwn hby ho2
          injection e5 with e6 e7 e8
          subst e6 e8
          have cv := bs5.str
          have HT := hideR (fun (W : World) => TokV.plain W 1 acc 0)
          clear ho2 bs5 hby
          generalize strOfNums acc = S at *
          go_wp2_with fail
          (try simp only [Exit.inBlock, Exit.then])
          refine bodyPost_ret (v := .tuple #[.agg #[.int .i64 1, .string S, .slice none 0 0, .int .i64 0], .int .i64 ((k - 1 + 2 : Nat) : Int)]) ?_ rfl ⟨_, _, rfl, .inr ⟨_, unhideR EO, unhideR HT _⟩, ?_⟩
          · rw [results_cell_tmp rfl]
            go_simp
            omega
          · exact set4 B4 (Nat.le_refl _) _ _ _ _
        · have eO : O = none := by rw [← unhideR HQ2, if_neg (fun x => cq x.2)]
          have EO := hideR eO
          clear HQ2 eO
          rw [decide_eq_false cq] at CB
          clear cq ca
          go_wp2_with fail
          refine (unhideR CP).mono ?_
          rintro e w1 ⟨rfl, b1⟩
          have HB1 := hideR (Bs.later (unhideR HBW) b1 (Nat.le_refl _))
          clear CP HO HBW
          go_wp2_with fail
          refine (unhideR CB _ (unhideR HB1)).mono ?_
          rintro e w2 ⟨rfl, b2⟩
          clear CB HB1
          have B3 := (hb.trans (b1.mono hws)).trans (b2.mono (by have := b1.size; omega))
          have HG2 : w2.heap[w.heap.size]? = some (.cells #[.int .i64 0, .string ⟨#[]⟩, .slice none 0 0, .int .i64 0] 24) := by rw [← hW] at B3; exact kept_new B3
          have B4 : Below w.heap.size w w2 := by rw [← hW] at B3; exact (Below.new1 _).trans (B3.mono (by simp))
          obtain ⟨⟨q0, q1, q2, q3⟩, f0, f1, f2, f3⟩ := cells4 HG2
          go_wp2_with fail
          (try simp only [Exit.inBlock, Exit.then])
          refine bodyPost_ret (v := .tuple #[zeroTok, .int .i64 (0 : Nat)]) ?_ rfl ⟨_, _, rfl, .inl ⟨unhideR EO, rfl, rfl⟩, ?_⟩
          · rw [results_cell_tmp rfl]
            go_simp
            try rfl
          · exact set4 B4 (Nat.le_refl _) _ _ _ _
    | some p =>
      obtain ⟨z, n⟩ := p
      have gd := pieceP_good (U.isBytes_drop (unhideR HBB) k) e1
      rw [List.length_drop] at gd
      have HG : Hid (piecesG (l.drop 1) = ((acc ++ [z]) ++ (piecesG (l.drop (k + n))).1, (k + n - 1) + (piecesG (l.drop (k + n))).2)) := by
        show _ = _
        rw [hg.out, pieces_yes (U.isBytes_drop (unhideR HBB) k) e1, List.drop_drop]
        simp only [List.append_assoc, List.singleton_append, Prod.mk.injEq, true_and]
        omega
      have hby2 : U.isBytes (acc ++ [z]) := fun y hy => by
        rcases List.mem_append.1 hy with h | h
        · exact hby y h
        · simp at h; subst h; omega
      rw [e1] at CP
      replace CP : Hid (Calls Tryz.prog 76 #[.slice (dropA a cap k) (len - k) (cap - k)] wr fun e w' => e = .returned (.tuple #[.int .u8 z, .int .i64 (n : Int)]) ∧ Below wr.heap.size wr w') := CP
      have t0 : ((n : Int) == 0) = false := beq_eq_false_iff_ne.2 (by omega)
      clear e1 hg HB hB hown HBB HBW hby
      go_wp2_with fail
      refine (unhideR CP).mono ?_
      rintro e w1 ⟨rfl, b1⟩
      have own1 := ownL b1 (unhideR HO)
      have hb1 := hb.trans (b1.mono hws)
      have hs1 := hb1.size
      clear CP HO
      go_wp2_with (at_builtin; refine wpList_append_lies _ rfl _ _ 55 rfl W0.heap.size 5 ti _ 1 1 Tryz.underlying55 hi0 hz0 hz1 hz2 rfl (by omega) _ _ _ rfl (own1.alloc _) ⟨w1.heap.size, 0, none⟩ 1 1 [.int .u8 z] rfl rfl (new_byte _ _ _ rfl) (by simp [Value.oneCell']) (by omega) (by unfold maxLen; omega) (by omega) (by simp; omega) (w1.heap.size + 1) (by simp) ?_; intro gg cap1 w2 hown1 hgrow hat hlt1)
      go_roundw
      case rel => exact ⟨k + n, acc ++ [z], by omega, by omega, by simp; omega, by go_num, hby2, HG, by rw [u8_snoc, List.length_append]; exact hown1, grow_b (own1.alloc _) (hb1.alloc hs1 _) (by simp; omega) hgrow⟩
      case measure => simp [intOf]; omega
end Go.Proofs.YtdaadeohamkoiaaGreatDoor.T
