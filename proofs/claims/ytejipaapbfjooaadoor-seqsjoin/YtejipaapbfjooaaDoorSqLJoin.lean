/- The walk of the statement SeqsJoin. -/
import Derived.Test.YtejipaapbfjooaaDoorSqLBase
namespace Go.Proofs.YtejipaapbfjooaaDoor
open Go.RowKit
set_option linter.unusedVariables false
set_option linter.unusedSimpArgs false

/-- what the law asks of the three -/
def JoinOk (x y z : Nat) : Prop := (x = 0 ∧ z = y) ∨ (x = z ∧ 0 < z ∧ (y = 0 ∨ y = z))
theorem join_ok {A K E Na Nk Ne : List (Int × Int)} {l : List Int} {at' : Int} (hb : U.isBytes l) (hA : G.Is Na (nrm A)) (hK : G.Is Nk (nrm K)) (hE : G.Is E fun n => nrm A n || nrm K n) (hN : G.Is Ne (nrm E)) {x y z : Nat}
    (hx : Q.matchL (Q.ofN Na) (Q.rest l at') = x) (hy : Q.matchL (Q.ofN Nk) (Q.rest l at') = y) (hz : Q.matchL (Q.ofN Ne) (Q.rest l at') = z) : JoinOk x y z := by
  rw [of_hit hA hb] at hx
  rw [of_hit hK hb] at hy
  rw [of_hit hN hb, nrm_is hE] at hz
  subst hx hy hz
  unfold JoinOk
  have hp : 0 ≤ (nx l at').1 → 0 < (nx l at').2 := fun h => by
    have := nx_pos hb at' h
    omega
  by_cases h0 : 0 ≤ (nx l at').1
  · have := hp h0
    cases hA' : nrm A (nx l at').1 <;> cases hK' : nrm K (nx l at').1 <;> simp [h0, this]
  · simp [h0]

set_option maxRecDepth 20000 in
set_option maxHeartbeats 4000000 in
theorem seqsJoin_walk (a : Option Addr) (la ca : Nat) (A : List (Int × Int)) (k : Option Addr) (lk ck : Nat) (K : List (Int × Int)) (ba : Option Addr) (bl bc : Nat) (l : List Int) (at' : Int) (w : World) (hA : Rs w a la ca A) (hK : Rs w k lk ck K) (h : Bs w ba bl bc l) (hn : ba = none → bc = 0) (hW : Wd w) :
    Calls Tryd.prog 7 #[.slice a la ca, .slice k lk ck, .slice ba bl bc, .int .i64 at'] w fun e w' => e = .returned (.bool true) ∧ Below w.heap.size w w' := by
  have hm := h.hmax
  have hc := h.hcap
  have hm2 := hA.hmax
  have hc2 := hA.hcap
  have hm3 := hK.hmax
  have hc3 := hK.hcap
  unfold maxLen at hm hm2 hm3
  have AW := hideR (awake3_any w hW)
  have CO := hideR ofSq
  have CM := hideR match_any
  have CE := hideR rgEither_any
  have HN := hideR hn
  have H0 := hideR h
  have W0 := hideR hW
  have RA0 := hideR hA
  have RK0 := hideR hK
  have hby := hideR h.hbytes
  clear h hn hW hA hK
  go_enter Tryd.func7, Tryd.ntmps7
  go_wp2_with fail
  refine (unhideR AW).mono ?_
  rintro e w1 ⟨rfl, b1⟩
  have H1 := hideR ((unhideR H0).later b1 (Nat.le_refl _))
  have RA1 := hideR ((unhideR RA0).later b1 (Nat.le_refl _))
  have RK1 := hideR ((unhideR RK0).later b1 (Nat.le_refl _))
  have W1 := hideR ((unhideR W0).later b1 (unhideR W0).pos)
  have B1 := hideR b1
  have s1 := b1.size
  clear H0 W0 RA0 RK0 AW b1
  by_cases hl : 20 < la
  · go_wp2_with fail
    go_ret
    exact ⟨rfl, unhideR B1⟩
  by_cases hl1 : 20 < lk
  · go_wp2_with fail
    go_ret
    exact ⟨rfl, unhideR B1⟩
  by_cases hl2 : 100 < bl
  · go_wp2_with fail
    go_ret
    exact ⟨rfl, unhideR B1⟩
  go_wp2_with fail
  refine (unhideR CO a la ca A w1 (unhideR RA1) (by omega) (unhideR W1)).mono ?_
  rintro e w2 ⟨Nx, xx, cx, hi, rfl, hS, b2⟩
  have HIx := hideR hi
  have HS := hideR hS
  have hScx := hS.hcap
  have hSmx := hS.hmax
  unfold maxLen at hSmx
  clear hi hS
  have H2 := hideR ((unhideR H1).later b2 (Nat.le_refl _))
  have RA2 := hideR ((unhideR RA1).later b2 (Nat.le_refl _))
  have RK2 := hideR ((unhideR RK1).later b2 (Nat.le_refl _))
  have W2 := hideR ((unhideR W1).later b2 (unhideR W1).pos)
  have B2 := hideR ((unhideR B1).trans (b2.mono s1))
  have s2 := (unhideR B2).size
  clear b2 H1 RA1 RK1 W1 B1 s1
  have C := hideR (unhideR CM xx (Q.ofN Nx).length cx (Q.ofN Nx) ba bl bc l at' w2 (unhideR HS) (unhideR H2) (unhideR HN))
  generalize hz : Q.matchL (Q.ofN Nx) (Q.rest l at') = zx at C
  have HZx := hideR hz
  clear hz HS
  generalize (Q.ofN Nx).length = slx at *
  go_wp2_with fail
  refine (unhideR C).mono ?_
  rintro e w3 ⟨rfl, b3⟩
  clear C
  have H3 := hideR ((unhideR H2).later b3 (Nat.le_refl _))
  have RA3 := hideR ((unhideR RA2).later b3 (Nat.le_refl _))
  have RK3 := hideR ((unhideR RK2).later b3 (Nat.le_refl _))
  have W3 := hideR ((unhideR W2).later b3 (unhideR W2).pos)
  have B3 := hideR ((unhideR B2).trans (b3.mono s2))
  have s3 := (unhideR B3).size
  clear b3 H2 RA2 RK2 W2 B2 s2
  go_wp2_with fail
  refine (unhideR CO k lk ck K w3 (unhideR RK3) (by omega) (unhideR W3)).mono ?_
  rintro e w4 ⟨Ny, xy, cy, hi, rfl, hS, b4⟩
  have HIy := hideR hi
  have HS := hideR hS
  have hScy := hS.hcap
  have hSmy := hS.hmax
  unfold maxLen at hSmy
  clear hi hS
  have H4 := hideR ((unhideR H3).later b4 (Nat.le_refl _))
  have RA4 := hideR ((unhideR RA3).later b4 (Nat.le_refl _))
  have RK4 := hideR ((unhideR RK3).later b4 (Nat.le_refl _))
  have W4 := hideR ((unhideR W3).later b4 (unhideR W3).pos)
  have B4 := hideR ((unhideR B3).trans (b4.mono s3))
  have s4 := (unhideR B4).size
  clear b4 H3 RA3 RK3 W3 B3 s3
  have C := hideR (unhideR CM xy (Q.ofN Ny).length cy (Q.ofN Ny) ba bl bc l at' w4 (unhideR HS) (unhideR H4) (unhideR HN))
  generalize hz : Q.matchL (Q.ofN Ny) (Q.rest l at') = zy at C
  have HZy := hideR hz
  clear hz HS
  generalize (Q.ofN Ny).length = sly at *
  go_wp2_with fail
  refine (unhideR C).mono ?_
  rintro e w5 ⟨rfl, b5⟩
  clear C
  have H5 := hideR ((unhideR H4).later b5 (Nat.le_refl _))
  have RA5 := hideR ((unhideR RA4).later b5 (Nat.le_refl _))
  have RK5 := hideR ((unhideR RK4).later b5 (Nat.le_refl _))
  have W5 := hideR ((unhideR W4).later b5 (unhideR W4).pos)
  have B5 := hideR ((unhideR B4).trans (b5.mono s4))
  have s5 := (unhideR B5).size
  clear b5 H4 RA4 RK4 W4 B4 s4
  go_wp2_with fail
  refine (unhideR CE a la ca A k lk ck K w5 (unhideR RA5) (unhideR RK5) (by omega) (by omega)).mono ?_
  rintro e w6 ⟨ae, le, ce, E, rfl, hE, iE, b6⟩
  have hle := is_small hE iE
  have RE6 := hideR hE
  have IE := hideR iE
  have eEc := hE.hcap
  have eEm := hE.hmax
  unfold maxLen at eEm
  clear hE iE CE
  have H6 := hideR ((unhideR H5).later b6 (Nat.le_refl _))
  have RA6 := hideR ((unhideR RA5).later b6 (Nat.le_refl _))
  have RK6 := hideR ((unhideR RK5).later b6 (Nat.le_refl _))
  have W6 := hideR ((unhideR W5).later b6 (unhideR W5).pos)
  have B6 := hideR ((unhideR B5).trans (b6.mono s5))
  have s6 := (unhideR B6).size
  clear b6 H5 RA5 RK5 W5 B5 s5
  go_wp2_with fail
  refine (unhideR CO ae le ce E w6 (unhideR RE6) (by omega) (unhideR W6)).mono ?_
  rintro e w7 ⟨Nz, xz, cz, hi, rfl, hS, b7⟩
  have HIz := hideR hi
  have HS := hideR hS
  have hScz := hS.hcap
  have hSmz := hS.hmax
  unfold maxLen at hSmz
  clear hi hS
  have H7 := hideR ((unhideR H6).later b7 (Nat.le_refl _))
  have RE7 := hideR ((unhideR RE6).later b7 (Nat.le_refl _))
  have W7 := hideR ((unhideR W6).later b7 (unhideR W6).pos)
  have B7 := hideR ((unhideR B6).trans (b7.mono s6))
  have s7 := (unhideR B7).size
  clear b7 H6 RE6 W6 B6 s6
  have C := hideR (unhideR CM xz (Q.ofN Nz).length cz (Q.ofN Nz) ba bl bc l at' w7 (unhideR HS) (unhideR H7) (unhideR HN))
  generalize hz : Q.matchL (Q.ofN Nz) (Q.rest l at') = zz at C
  have HZz := hideR hz
  clear hz HS
  generalize (Q.ofN Nz).length = slz at *
  go_wp2_with fail
  refine (unhideR C).mono ?_
  rintro e w8 ⟨rfl, b8⟩
  clear C
  have H8 := hideR ((unhideR H7).later b8 (Nat.le_refl _))
  have RE8 := hideR ((unhideR RE7).later b8 (Nat.le_refl _))
  have W8 := hideR ((unhideR W7).later b8 (unhideR W7).pos)
  have B8 := hideR ((unhideR B7).trans (b8.mono s7))
  have s8 := (unhideR B8).size
  clear b8 H7 RE7 W7 B7 s7
  have key : Hid (JoinOk zx zy zz) := join_ok (unhideR hby) (unhideR HIx) (unhideR HIy) (unhideR IE) (unhideR HIz) (unhideR HZx) (unhideR HZy) (unhideR HZz)
  clear HZx HZy HZz HIx HIy HIz IE
  rcases key.out with ⟨hx, hz⟩ | ⟨hx, h0, hy⟩
  · have e1 : (zx : Int) = 0 := by omega
    have e2 : (zz : Int) = (zy : Int) := by omega
    clear key hx hz
    go_wp2_with fail
    go_ret
    exact ⟨rfl, unhideR B8⟩
  · have e1 : (zz : Int) = (zx : Int) := by omega
    have e2 : (0 : Int) < (zx : Int) := by omega
    rcases hy with hy | hy
    · have e3 : (zy : Int) = 0 := by omega
      clear key hx h0 hy
      go_wp2_with fail
      go_ret
      exact ⟨rfl, unhideR B8⟩
    · have e3 : (zy : Int) = (zx : Int) := by omega
      clear key hx h0 hy
      go_wp2_with fail
      go_ret
      exact ⟨rfl, unhideR B8⟩

end Go.Proofs.YtejipaapbfjooaaDoor
