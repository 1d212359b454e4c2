/- The contract of the document's own answer of layer 5: Lits. -/
import Derived.Test.YtdaadeohamkoiaaGreatDoorTkRefB
import Derived.Test.YtdaadeohamkoiaaGreatDoorUtfJoin
namespace Go.Proofs.YtdaadeohamkoiaaGreatDoor.T
open Go.RowKit
set_option linter.unusedVariables false
set_option linter.unusedSimpArgs false

/-- what is told of a Lit's pieces, from a place on -/
def litR (r : List Int) : List Int × Nat := match gatherL pieceL 34 r with
  | none => ([], 0)
  | some (x, n) => if x = [] then ([], 0) else (x, n)
/-- with pieces ahead -/
def litG (acc : List Int) (d : Nat) (r : List Int) : List Int × Nat := match gatherL pieceL 34 r with
  | none => ([], 0)
  | some (x, n) => if acc ++ x = [] then ([], 0) else (acc ++ x, d + n)
theorem lit_start (r : List Int) : litG [] 0 r = litR r := by
  unfold litG litR
  cases gatherL pieceL 34 r with
  | none => rfl
  | some p => obtain ⟨x, n⟩ := p; simp
theorem lit_end {acc : List Int} {d : Nat} {r : List Int} (h : r = []) : litG acc d r = ([], 0) := by subst h; rfl
theorem lit_stop {acc : List Int} {d : Nat} {r : List Int} (h : r ≠ []) (hs : r.getD 0 0 = 34) : litG acc d r = if acc = [] then ([], 0) else (acc, d + 1) := by
  unfold litG
  rw [gather_stop h hs]
  simp
theorem lit_bad {acc : List Int} {d : Nat} {r : List Int} (h : r ≠ []) (hs : r.getD 0 0 ≠ 34) (ho : pieceL r = none) : litG acc d r = ([], 0) := by
  unfold litG
  rw [gather_bad h hs ho]
theorem lit_step {acc : List Int} {d : Nat} {r : List Int} (hb : U.isBytes r) (h : r ≠ []) (hs : r.getD 0 0 ≠ 34) {x : Int} {n : Nat} (ho : pieceL r = some (x, n)) : litG acc d r = litG (acc ++ [x]) (d + n) (r.drop n) := by
  unfold litG
  rw [gather_step piece_good hb h hs ho]
  cases gatherL pieceL 34 (r.drop n) with
  | none => rfl
  | some p =>
    obtain ⟨xs, m⟩ := p
    simp [Nat.add_assoc]
theorem drop_ne {l : List Int} {k : Nat} (h : k < l.length) : l.drop k ≠ [] := by
  intro e
  have := congrArg List.length e
  rw [List.length_drop, List.length_nil] at this
  omega
theorem new_byte (w : World) (n : Nat) (x : Int) (hn : n = w.heap.size) : ∀ (j : Nat) (u : Value), [Value.int .u8 x][j]? = some u → (w.alloc (.cells #[.int .u8 x] 5)).cell? ((⟨n, 0, none⟩ : Addr).add j) = some u := by
  subst hn
  exact World.news_of_block (cs := #[.int .u8 x]) (t := 5) (fr := (0, 0)) (heap_alloc_new w _)
theorem grow_b {B : Nat} {w w2 w1 : World} {e : TypeId} {sz n : Nat} {v : Value} {xs : List Value} (h : w2.ownsRow B e sz v n xs) (hb : Below B w w2) (hB : B ≤ w2.heap.size) (hg : w2.grownBy w1 v.ownBlock) : Below B w w1 :=
  hb.grown hg hB (fun k hk => (h.lt k hk).1)
theorem own_drew {W W1 : World} {base : Nat} {e : TypeId} {size : Nat} {v : Value} {n : Nat} {xs : List Value} (h : W.ownsRow base e size v n xs) {d : Nat} (hw : W1 = W.drewN d) : W1.ownsRow base e size v n xs := by rw [hw]; exact h
theorem u8_snoc (l : List Int) (x : Int) : (l ++ [x]).map (Value.int .u8) = l.map (Value.int .u8) ++ [.int .u8 x] := by simp
theorem form_b {W : World} {base : Nat} {e : TypeId} {size : Nat} {v : Value} {n : Nat} {xs : List Value} (h : W.ownsRow base e size v n xs) : ∃ a cap, v = .slice a n cap := by
  rcases h.2 with ⟨rfl, h0⟩ | ⟨g, cap, cur, hv, _⟩
  · exact ⟨none, 0, by rw [h0]⟩
  · exact ⟨_, cap, hv⟩

set_option maxRecDepth 20000 in
set_option maxHeartbeats 2000000 in
theorem lit_any (s : ByteArray) (l : List Int) (h : St s l) (hs : l.length ≤ 1000000) (a : Nat) (ha : a ≤ l.length) (w : World) :
    Calls Tryz.prog 54 #[.string s, .int .i64 a] w fun e w' => e = .returned (.tuple #[.string (strOfNums (litR (l.drop a)).1), .int .i64 (litR (l.drop a)).2]) ∧ Below w.heap.size w w' := by
  have hsz := h.size
  have hst := lit_start (l.drop a)
  have HS := hideR h
  have CX := hideR (fun k hk W => hex_any s l h hs k hk W)
  have hbb := hideR h.2
  clear h
  obtain ⟨ti, hi0, hz0, hz1, hz2⟩ := info_parts info_byte
  generalize litR (l.drop a) = R at *
  go_enter Tryz.func54, Tryz.ntmps54
  go_wp2_with fail
  go_loopw [6, 7] (fun v j wr => ∃ (k : Nat) (acc : List Int), a ≤ k ∧ k ≤ l.length ∧ acc.length ≤ k ∧ j = .int .i64 k ∧ U.isBytes acc ∧ wr.ownsRow w.heap.size 5 1 v acc.length (acc.map (Value.int .u8)) ∧ Hid (litG acc (k - a) (l.drop k) = R) ∧ Below w.heap.size w wr) (fun _ j _ => l.length - (intOf j).toNat)
  case atStart => exact ⟨a, [], Nat.le_refl _, ha, Nat.zero_le _, rfl, (fun z hz => by cases hz), World.ownsRow_nil _ _ _ _, (by show _ = _; rw [Nat.sub_self]; exact hst), Below.refl _ _⟩
  case round =>
    obtain ⟨k, acc, hk0, hk, hal, rfl, hab, hown, hg, hb⟩ := hrel
    have hbs := hb.size
    clear hst
    by_cases hlt : k < l.length
    · have x0 := (unhideR HS).ix hlt
      have z0 := (unhideR HS).byte k
      have e0 : (l.drop k).getD 0 0 = l.getD k 0 := by rw [drop_getD, Nat.add_zero]
      have hne := drop_ne hlt
      have hbd := U.isBytes_drop (unhideR hbb) k
      by_cases h34 : l.getD k 0 = 34
      · have st := lit_stop (acc := acc) (d := k - a) hne (by rw [e0]; exact h34)
        rw [hg.out] at st
        rw [h34] at x0
        clear hg hne hbd e0 CX HS hbb
        by_cases hac : acc = []
        · subst hac
          simp only [if_true] at st
          have ST := hideR st
          obtain ⟨xa, xc, rfl⟩ := form_b hown
          simp only [List.length_nil] at *
          clear st
          go_wp2_with fail
          go_ret2
          exact ⟨by rw [unhideR ST]; rfl, hb⟩
        · rw [if_neg hac] at st
          have ST := hideR st
          obtain ⟨xa, xc, rfl, hB⟩ := Bs.ofOwn hab hown
          have cv := hB.str
          have hl1 : 1 ≤ acc.length := by cases acc <;> simp_all
          have e1 : ((acc.length : Int) == 0) = false := by rw [beq_eq_false_iff_ne]; omega
          clear st hB hown
          go_wp2_with fail
          go_ret2
          refine ⟨?_, hb⟩
          rw [unhideR ST]
          simp only
          rw [show ((k - a + 1 : Nat) : Int) = (k : Int) + 1 - (a : Int) by omega]
          rfl
      · have ez : (l.getD k 0 == 34) = false := by rw [beq_eq_false_iff_ne]; exact h34
        by_cases h92 : l.getD k 0 = 92
        · by_cases h120 : k + 1 < l.length ∧ l.getD (k + 1) 0 = 120
          · have x1 := (unhideR HS).ix h120.1
            rw [h120.2, show ((k + 1 : Nat) : Int) = (k : Int) + 1 by omega] at x1
            have CH := hideR (unhideR CX (k + 2) (by omega))
            rw [show ((k + 2 : Nat) : Int) = (k : Int) + 2 by omega] at CH
            have e3 : (l.drop k).drop 2 = l.drop (k + 2) := by rw [List.drop_drop]
            have pc : pieceL (l.drop k) = if 0 ≤ hexI (l.drop (k + 2)) then some (hexI (l.drop (k + 2)), 4) else none := by
              unfold pieceL
              rw [e0, if_pos h92, drop_getD, h120.2, e3]
              simp
            have hr := hex_range (l.drop (k + 2))
            have hlen : 0 ≤ hexI (l.drop (k + 2)) → k + 4 ≤ l.length := fun c => by
              have := hex_len c
              rw [List.length_drop] at this
              omega
            rw [h92] at x0
            by_cases hx : 0 ≤ hexI (l.drop (k + 2))
            · have hl4 := hlen hx
              rw [if_pos hx] at pc
              have st := lit_step (acc := acc) (d := k - a) hbd hne (by rw [e0]; exact h34) pc
              rw [hg.out, List.drop_drop] at st
              generalize hexI (l.drop (k + 2)) = q at *
              have ST : Hid (litG (acc ++ [q]) (k + 4 - a) (l.drop (k + 4)) = R) := by
                show _ = _
                rw [st, show k - a + 4 = k + 4 - a by omega]
              have hqb : U.isBytes (acc ++ [q]) := bytes_app hab (bytes_cons hx (by omega) fun z hz => by cases hz)
              have hq2 : q ≤ 255 := hr.2
              obtain ⟨hk1, _⟩ := h120
              clear hg hne hbd e0 CX HS hbb pc st hlen hr e3 h34 ez h92
              go_wp2_with fail
              refine (unhideR CH _).mono ?_
              rintro e w1 ⟨rfl, d, hw1⟩
              have own1 := own_drew hown hw1
              have B1 : Below w.heap.size w w1 := by rw [hw1]; exact hb.trans draws_b
              have s1 := B1.size
              clear CH hown hb hbs hw1
              go_wp2_with (at_builtin; refine wpList_append_lies _ rfl _ _ 55 rfl w.heap.size 5 ti _ 1 1 Tryz.underlying55 hi0 hz0 hz1 hz2 rfl (by omega) _ _ _ rfl (own1.alloc _) ⟨w1.heap.size, 0, none⟩ 1 1 [.int .u8 q] rfl rfl (new_byte _ _ _ rfl) (by simp [Value.oneCell']) (by omega) (by unfold maxLen; omega) (by omega) (by simp; omega) (w1.heap.size + 1) (by simp) ?_; intro gg cap1 w2 hown1 hgrow hat hlt1)
              go_roundw
              case rel => exact ⟨k + 4, acc ++ [q], by omega, by omega, by simp; omega, by go_num, hqb, by rw [u8_snoc, List.length_append]; exact hown1, ST, grow_b (own1.alloc _) (B1.alloc s1 _) (by simp; omega) hgrow⟩
              case measure => simp [intOf]; omega
            · rw [if_neg hx] at pc
              have st := lit_bad (acc := acc) (d := k - a) hne (by rw [e0]; exact h34) pc
              rw [hg.out] at st
              have ST := hideR st
              generalize hexI (l.drop (k + 2)) = q at *
              obtain ⟨hk1, _⟩ := h120
              clear hg hne hbd e0 CX HS hbb pc st hlen hr e3 h34 ez h92 hown
              go_wp2_with fail
              refine (unhideR CH _).mono ?_
              rintro e w1 ⟨rfl, d, hw1⟩
              have B1 : Below w.heap.size w w1 := by rw [hw1]; exact hb.trans draws_b
              clear CH hb hbs hw1
              go_wp2_with fail
              go_ret2
              exact ⟨by rw [unhideR ST]; rfl, B1⟩
          · have pc : pieceL (l.drop k) = none := by
              unfold pieceL
              rw [e0, if_pos h92, drop_getD, if_neg]
              rintro ⟨c1, c2⟩
              apply h120
              refine ⟨?_, c1⟩
              by_cases hh : k + 1 < l.length
              · exact hh
              · exfalso
                simp [List.getD, List.getElem?_eq_none (Nat.le_of_not_lt hh)] at c1
            have st := lit_bad (acc := acc) (d := k - a) hne (by rw [e0]; exact h34) pc
            rw [hg.out] at st
            have ST := hideR st
            rw [h92] at x0
            by_cases hk1 : k + 1 < l.length
            · have x1 := (unhideR HS).ix hk1
              have n120 : l.getD (k + 1) 0 ≠ 120 := fun c => h120 ⟨hk1, c⟩
              rw [show ((k + 1 : Nat) : Int) = (k : Int) + 1 by omega] at x1
              generalize l.getD (k + 1) 0 = y at *
              have ey : (y == 120) = false := by rw [beq_eq_false_iff_ne]; exact n120
              clear hg hne hbd e0 CX HS hbb pc st h34 ez h92 hown h120
              go_wp2_with fail
              go_ret2
              exact ⟨by rw [unhideR ST]; rfl, hb⟩
            · clear hg hne hbd e0 CX HS hbb pc st h34 ez h92 hown h120
              go_wp2_with fail
              go_ret2
              exact ⟨by rw [unhideR ST]; rfl, hb⟩
        · have ey : (l.getD k 0 == 92) = false := by rw [beq_eq_false_iff_ne]; exact h92
          by_cases hpr : l.getD k 0 < 32 ∨ 126 < l.getD k 0
          · have pc : pieceL (l.drop k) = none := by
              unfold pieceL
              rw [e0, if_neg h92, if_pos hpr]
            have st := lit_bad (acc := acc) (d := k - a) hne (by rw [e0]; exact h34) pc
            rw [hg.out] at st
            have ST := hideR st
            clear hg hne hbd e0 CX HS hbb pc st hown
            generalize l.getD k 0 = z at *
            by_cases hp1 : z < 32
            · go_wp2_with fail
              go_ret2
              exact ⟨by rw [unhideR ST]; rfl, hb⟩
            · have hp2 : 126 < z := by omega
              go_wp2_with fail
              go_ret2
              exact ⟨by rw [unhideR ST]; rfl, hb⟩
          · have pc : pieceL (l.drop k) = some (l.getD k 0, 1) := by
              unfold pieceL
              rw [e0, if_neg h92, if_neg hpr]
            have st := lit_step (acc := acc) (d := k - a) hbd hne (by rw [e0]; exact h34) pc
            rw [hg.out, List.drop_drop] at st
            have ST : Hid (litG (acc ++ [l.getD k 0]) (k + 1 - a) (l.drop (k + 1)) = R) := by
              show _ = _
              rw [st, show k - a + 1 = k + 1 - a by omega]
            have hqb : U.isBytes (acc ++ [l.getD k 0]) := bytes_app hab (bytes_cons z0.1 z0.2 fun z hz => by cases hz)
            clear hg hne hbd e0 CX HS hbb pc st
            generalize l.getD k 0 = z at *
            have hp1 : 32 ≤ z := by omega
            have hp2 : z ≤ 126 := by omega
            clear hpr
            go_wp2_with (at_builtin; refine wpList_append_lies _ rfl _ _ 55 rfl w.heap.size 5 ti _ 1 1 Tryz.underlying55 hi0 hz0 hz1 hz2 rfl (by omega) _ _ _ rfl (hown.alloc _) ⟨wr.heap.size, 0, none⟩ 1 1 [.int .u8 z] rfl rfl (new_byte _ _ _ rfl) (by simp [Value.oneCell']) (by omega) (by unfold maxLen; omega) (by omega) (by simp; omega) (wr.heap.size + 1) (by simp) ?_; intro gg cap1 w2 hown1 hgrow hat hlt1)
            go_roundw
            case rel => exact ⟨k + 1, acc ++ [z], by omega, by omega, by simp; omega, by go_num, hqb, by rw [u8_snoc, List.length_append]; exact hown1, ST, grow_b (hown.alloc _) (hb.alloc hb.size _) (by simp; omega) hgrow⟩
            case measure => simp [intOf]; omega
    · have st := lit_end (acc := acc) (d := k - a) (r := l.drop k) (List.drop_of_length_le (by omega))
      rw [hg.out] at st
      have ST := hideR st
      clear hg CX HS hbb st hown
      go_wp2_with fail
      go_ret2
      exact ⟨by rw [unhideR ST]; rfl, hb⟩

end Go.Proofs.YtdaadeohamkoiaaGreatDoor.T
