/- The walk of LinesAhead. -/
import Derived.Test.YtjjfeeclpidblaaLnAwake
import Derived.Test.YtjjfeeclpidblaaUtfBack
namespace Go.Proofs.Ytjjfeeclpidblaa.Ln
open Go.RowKit
set_option linter.unusedVariables false
set_option linter.unusedSimpArgs false

/-- 'append' of bytes that lie somewhere, or of none, onto a row of the call's own -/
theorem append_bs (w : World) {ops : Array Oper} {rest : List Oper} {o : Oper} {a : Act} {Q : Exit → Act → World → Prop} (hgd : o.guard = none) (s x : Operand)
    (ho : o.op = .call { callee := .builtin .append, args := #[s, x], argTypes := #[22, 22] })
    (base : Nat) (v : Value) (n : Nat) (xs : List Int) (hs : a.eval s = v) (hown : w.ownsRow base 5 1 v n (xs.map (Value.int .u8)))
    (y : Option Addr) (m c : Nat) (l : List Int) (hx : a.eval x = .slice y m c) (hB : Bs w y m c l) (hy : y = none → c = 0) (hnm : n + m ≤ 100000) (hbase : base ≤ w.heap.size)
    (h : ∀ v' w', w'.ownsRow base 5 1 v' (n + m) ((xs ++ l).map (Value.int .u8)) → w.grownBy w' v.ownBlock → wpList Try.prog ops Q rest (a.put o.dst v') w') : wpList Try.prog ops Q (o :: rest) a w := by
  obtain ⟨ti, hi, hz0, hz1, hz2⟩ := info_parts info_byte
  have hl := hB.hlen
  cases y with
  | none =>
    have hc := hy rfl
    subst hc
    have hm : m = 0 := by have := hB.hcap; omega
    subst hm
    have : l = [] := List.eq_nil_of_length_eq_zero hl
    subst this
    refine wpList_append_none w hgd s x _ ho base 5 ti 1 Try.underlying22 hi v n _ hs hown hx (h v w ?_ ⟨rfl, rfl, rfl, Nat.le_refl _, fun _ _ _ => rfl⟩)
    rw [List.append_nil, Nat.add_zero]
    exact hown
  | some ad =>
    refine wpList_append_own w hgd s x _ ho base 5 ti (.int .u8 0) 1 1 Try.underlying22 hi hz0 hz1 hz2 rfl (by omega) v n (xs.map (Value.int .u8)) hs hown ad m c (l.map (Value.int .u8)) hx (by rw [List.length_map, Nat.mul_one]; exact hl) hB.news (ints_oneCell _ _) (by unfold maxLen; omega) (by omega) hbase ?_
    intro v' w' h1 h2 _
    exact h v' w' (by rw [List.map_append]; exact h1) h2
/-- the cell of the byte that is appended lies in a block just made -/
theorem bs_ten (w : World) : Bs (w.alloc (.cells #[.int .u8 10] 5)) (some ⟨w.heap.size, 0, none⟩) 1 1 [10] := Bs.fresh w [10] (by intro z hz; simp at hz; omega) (by unfold maxLen; simp)
theorem grown_below {w w1 w2 : World} {base : Nat} {e : TypeId} {sz n : Nat} {v : Value} {xs : List Value} (B : Below base w w1) (hs : base ≤ w1.heap.size) (ho : w1.ownsRow base e sz v n xs) (hg : w1.grownBy w2 v.ownBlock) : Below base w w2 := below_grow ho B hs hg
/-- bytes that came in stay, whatever is appended to a row of the call's own -/
theorem bs_keep {w0 w : World} {base : Nat} (hb : Below base w0 w) (h0 : w0.heap.size = base) {y : Option Addr} {m c : Nat} {l : List Int} (h : Bs w0 y m c l) : Bs w y m c l := h.later hb (by omega)
theorem all_is (A B C : List Int) : (((A ++ [10]) ++ B) ++ [10]) ++ C = (A ++ [10]) ++ (B ++ 10 :: C) := by simp

set_option maxRecDepth 20000 in
set_option maxHeartbeats 2000000 in
theorem linesAhead_walk (a : Option Addr) (la ca : Nat) (A : List Int) (b : Option Addr) (lb cb : Nat) (B : List Int) (c : Option Addr) (lc cc : Nat) (C : List Int) (tab : Int) (w : World) (ha : Bs w a la ca A) (hb : Bs w b lb cb B) (hc : Bs w c lc cc C) (na : a = none → ca = 0) (nb : b = none → cb = 0) (nc : c = none → cc = 0) :
    Calls Try.prog 9 #[.slice a la ca, .slice b lb cb, .slice c lc cc, .int .i64 tab] w fun e w' => e = .returned (.bool true) ∧ Below w.heap.size w w' := by
  have C0 := hideR (awake4_any w)
  have la1 := ha.hlen
  have lb1 := hb.hlen
  have lc1 := hc.hlen
  have ba := ha.hbytes
  have bb := hb.hbytes
  have bc := hc.hbytes
  by_cases o1 : (100 : Int) < (la : Int)
  · go_enter Try.func9, Try.ntmps9
    go_wp2_with fail
    refine (unhideR C0).mono ?_
    rintro e w1 ⟨rfl, B1⟩
    clear C0
    go_wp2_with fail
    go_ret
    exact ⟨rfl, B1⟩
  · skip
    by_cases o2 : (100 : Int) < (lb : Int)
    · go_enter Try.func9, Try.ntmps9
      go_wp2_with fail
      refine (unhideR C0).mono ?_
      rintro e w1 ⟨rfl, B1⟩
      clear C0
      go_wp2_with fail
      go_ret
      exact ⟨rfl, B1⟩
    · skip
      by_cases o3 : (100 : Int) < (lc : Int)
      · go_enter Try.func9, Try.ntmps9
        go_wp2_with fail
        refine (unhideR C0).mono ?_
        rintro e w1 ⟨rfl, B1⟩
        clear C0
        go_wp2_with fail
        go_ret
        exact ⟨rfl, B1⟩
      · skip
        by_cases o4 : tab < 1
        · go_enter Try.func9, Try.ntmps9
          go_wp2_with fail
          refine (unhideR C0).mono ?_
          rintro e w1 ⟨rfl, B1⟩
          clear C0
          go_wp2_with fail
          go_ret
          exact ⟨rfl, B1⟩
        · skip
          by_cases o5 : 16 < tab
          · go_enter Try.func9, Try.ntmps9
            go_wp2_with fail
            refine (unhideR C0).mono ?_
            rintro e w1 ⟨rfl, B1⟩
            clear C0
            go_wp2_with fail
            go_ret
            exact ⟨rfl, B1⟩
          · skip
            obtain ⟨t, rfl⟩ := Int.eq_ofNat_of_zero_le (show 0 ≤ tab by omega)
            have t1 : 1 ≤ t := by omega
            have t2 : t ≤ 16 := by omega
            have sa : la ≤ 100 := by omega
            have sb : lb ≤ 100 := by omega
            have sc : lc ≤ 100 := by omega
            clear o1 o2 o3 o4 o5
            obtain ⟨L, hL⟩ : ∃ L, (A ++ [10]) ++ (B ++ 10 :: C) = L := ⟨_, rfl⟩
            have lL : L.length = la + 1 + lb + 1 + lc := by rw [← hL]; simp; omega
            have bL : U.isBytes L := by
              rw [← hL]
              intro z hz
              simp only [List.mem_append, List.mem_cons, List.not_mem_nil, or_false] at hz
              rcases hz with (h | h) | h | h | h
              · exact ba z h
              · subst h; omega
              · exact bb z h
              · subst h; omega
              · exact bc z h
            have v1 : colI L ((la + 1 + lb : Nat) : Int) (t : Int) = (colN B lb t : Int) := by
              unfold colI
              rw [lL, if_pos ⟨pl_yes (by omega) (by omega), by omega, by omega⟩]
              have := ahead_col A B C bb bc t
              rw [hL, la1, lb1] at this
              simp only [Int.toNat_natCast]
              rw [this]
            have v2 : colI B (lb : Int) (t : Int) = (colN B lb t : Int) := by unfold colI; rw [lb1, if_pos ⟨pl_yes (by omega) (by omega), by omega, by omega⟩]; rfl
            have v3 : lineI L ((la + 1 + lb : Nat) : Int) = ((lineN A la + 1 + lineN B lb : Nat) : Int) := by
              unfold lineI
              rw [lL, if_pos (pl_yes (by omega) (by omega))]
              have := ahead_line A B C
              rw [hL, la1, lb1] at this
              simp only [Int.toNat_natCast]
              rw [this]
            have v4 : lineI A (la : Int) = (lineN A la : Int) := by unfold lineI; rw [la1, if_pos (pl_yes (by omega) (by omega))]; rfl
            have v5 : lineI B (lb : Int) = (lineN B lb : Int) := by unfold lineI; rw [lb1, if_pos (pl_yes (by omega) (by omega))]; rfl
            have q1 := line_le A la
            have q2 := line_le B lb
            have C1 := hideR (fun W x cap (h : Bs W x (la + 1 + lb + 1 + lc) cap L) => col_any x _ cap L W h (by omega) ((la + 1 + lb : Nat) : Int) t)
            have C2 := hideR (fun W (h : Bs W b lb cb B) => col_any b lb cb B W h (by omega) lb t)
            have C3 := hideR (fun W x cap (h : Bs W x (la + 1 + lb + 1 + lc) cap L) => line_any x _ cap L W h ((la + 1 + lb : Nat) : Int))
            have C4 := hideR (fun W (h : Bs W a la ca A) => line_any a la ca A W h la)
            have C5 := hideR (fun W (h : Bs W b lb cb B) => line_any b lb cb B W h lb)
            rw [v1] at C1
            rw [v2] at C2
            rw [v3] at C3
            rw [v4] at C4
            rw [v5] at C5
            have HL : Hid ((((A ++ [10]) ++ B) ++ [10]) ++ C = L) := (all_is A B C).trans hL
            have BL := hideR bL
            have HA := hideR ha
            have HB := hideR hb
            have HC := hideR hc
            have ecast : ((la + 1 + lb : Nat) : Int) = (la : Int) + 1 + (lb : Int) := by omega
            rw [ecast] at C1 C3
            rw [show ((lineN A la + 1 + lineN B lb : Nat) : Int) = (lineN A la : Int) + 1 + (lineN B lb : Int) by omega] at C3
            clear ha hb hc v1 v2 v3 v4 v5 bL lL hL ba bb bc ecast
            generalize colN B lb t = cl at *
            generalize lineN A la = m1 at *
            generalize lineN B lb = m2 at *
            go_enter Try.func9, Try.ntmps9
            go_wp2_with fail
            refine (unhideR C0).mono ?_
            rintro e w1 ⟨rfl, B1⟩
            clear C0
            have s1 := B1.size
            have tok1 := hideR True.intro
            have tok2 := hideR True.intro
            have tok3 := hideR True.intro
            have tok4 := hideR True.intro
            have tok5 := hideR True.intro
            have own0 : w1.ownsRow w.heap.size 5 1 (.slice none 0 0) 0 (([] : List Int).map (Value.int .u8)) := World.ownsRow_nil _ _ _ _
            have fa := bs_keep B1 rfl (unhideR HA)
            go_wp2_with (at_builtin; first
              | (have _t := tok1; refine append_bs _ rfl _ _ rfl w.heap.size _ 0 [] rfl own0 a la ca A rfl fa na (by omega) s1 ?_; clear tok1; intro v2 w2 own2 g2; have B2 := grown_below B1 s1 own0 g2; have s2 := B2.size; simp only [Nat.zero_add, List.nil_append] at own2)
              | (have _t := tok2; refine append_bs _ rfl _ _ rfl w.heap.size _ _ _ rfl (own2.alloc _) (some ⟨w2.heap.size, 0, none⟩) 1 1 [10] rfl (bs_ten w2) (fun h => by cases h) (by omega) (by simp; omega) ?_; clear tok2; intro v3 w3 own3 g3; have B3 := grown_below (B2.alloc s2 _) (by simp; omega) (own2.alloc _) g3; have s3 := B3.size)
              | (have _t := tok3; refine append_bs _ rfl _ _ rfl w.heap.size _ _ _ rfl own3 b lb cb B rfl (bs_keep B3 rfl (unhideR HB)) nb (by omega) s3 ?_; clear tok3; intro v4 w4 own4 g4; have B4 := grown_below B3 s3 own3 g4; have s4 := B4.size)
              | (have _t := tok4; refine append_bs _ rfl _ _ rfl w.heap.size _ _ _ rfl (own4.alloc _) (some ⟨w4.heap.size, 0, none⟩) 1 1 [10] rfl (bs_ten w4) (fun h => by cases h) (by omega) (by simp; omega) ?_; clear tok4; intro v5 w5 own5 g5; have B5 := grown_below (B4.alloc s4 _) (by simp; omega) (own4.alloc _) g5; have s5 := B5.size)
              | (have _t := tok5; refine append_bs _ rfl _ _ rfl w.heap.size _ _ _ rfl own5 c lc cc C rfl (bs_keep B5 rfl (unhideR HC)) nc (by omega) s5 ?_; clear tok5; intro v6 w6 own6 g6; have B6 := grown_below B5 s5 own5 g6; have s6 := B6.size))
            rw [unhideR HL] at own6
            obtain ⟨x, cx, rfl, hF6⟩ := Bs.ofOwn (unhideR BL) own6
            have F6 := hideR hF6
            have A6 := hideR (bs_keep B6 rfl (unhideR HA))
            have D6 := hideR (bs_keep B6 rfl (unhideR HB))
            clear own0 own2 own3 own4 own5 own6 g2 g3 g4 g5 g6 fa B1 B2 B3 B4 B5 s1 s2 s3 s4 s5 hF6 HL BL HA HB HC na nb nc
            refine (unhideR C1 _ _ _ (unhideR F6)).mono ?_
            rintro e w7 ⟨rfl, hb7⟩
            have B7 : Below w.heap.size w w7 := B6.trans (hb7.mono s6)
            have s7 := B7.size
            have F7 := hideR ((unhideR F6).later hb7 (Nat.le_refl _))
            have A7 := hideR ((unhideR A6).later hb7 (Nat.le_refl _))
            have D7 := hideR ((unhideR D6).later hb7 (Nat.le_refl _))
            clear hb7 B6 s6 F6 A6 D6 C1
            go_wp2_with fail
            refine (unhideR C2 _ (unhideR D7)).mono ?_
            rintro e w8 ⟨rfl, hb8⟩
            have B8 : Below w.heap.size w w8 := B7.trans (hb8.mono s7)
            have s8 := B8.size
            have F8 := hideR ((unhideR F7).later hb8 (Nat.le_refl _))
            have A8 := hideR ((unhideR A7).later hb8 (Nat.le_refl _))
            have D8 := hideR ((unhideR D7).later hb8 (Nat.le_refl _))
            clear hb8 B7 s7 F7 A7 D7 C2
            go_wp2_with fail
            refine (unhideR C3 _ _ _ (unhideR F8)).mono ?_
            rintro e w9 ⟨rfl, hb9⟩
            have B9 : Below w.heap.size w w9 := B8.trans (hb9.mono s8)
            have s9 := B9.size
            have F9 := hideR ((unhideR F8).later hb9 (Nat.le_refl _))
            have A9 := hideR ((unhideR A8).later hb9 (Nat.le_refl _))
            have D9 := hideR ((unhideR D8).later hb9 (Nat.le_refl _))
            clear hb9 B8 s8 F8 A8 D8 C3
            go_wp2_with fail
            refine (unhideR C4 _ (unhideR A9)).mono ?_
            rintro e w10 ⟨rfl, hb10⟩
            have B10 : Below w.heap.size w w10 := B9.trans (hb10.mono s9)
            have s10 := B10.size
            have F10 := hideR ((unhideR F9).later hb10 (Nat.le_refl _))
            have A10 := hideR ((unhideR A9).later hb10 (Nat.le_refl _))
            have D10 := hideR ((unhideR D9).later hb10 (Nat.le_refl _))
            clear hb10 B9 s9 F9 A9 D9 C4
            go_wp2_with fail
            refine (unhideR C5 _ (unhideR D10)).mono ?_
            rintro e w11 ⟨rfl, hb11⟩
            have B11 : Below w.heap.size w w11 := B10.trans (hb11.mono s10)
            have s11 := B11.size
            have F11 := hideR ((unhideR F10).later hb11 (Nat.le_refl _))
            have A11 := hideR ((unhideR A10).later hb11 (Nat.le_refl _))
            have D11 := hideR ((unhideR D10).later hb11 (Nat.le_refl _))
            clear hb11 B10 s10 F10 A10 D10 C5
            go_wp2_with fail
            go_ret
            exact ⟨rfl, B11⟩

end Go.Proofs.Ytjjfeeclpidblaa.Ln
