/- The walk of LinesTell. -/
import Derived.Test.YtjjfeeclpidblaaLnAwake
import Derived.Test.YtjjfeeclpidblaaLnRefCol
import Derived.Test.YtjjfeeclpidblaaLnRefEnds
namespace Go.Proofs.Ytjjfeeclpidblaa.Ln
open Go.RowKit
set_option linter.unusedVariables false
set_option linter.unusedSimpArgs false

set_option maxRecDepth 20000 in
set_option maxHeartbeats 2000000 in
theorem linesTell_walk (a : Option Addr) (len cap : Nat) (l : List Int) (i tab : Int) (w : World) (h : Bs w a len cap l) :
    Calls Try.prog 3 #[.slice a len cap, .int .i64 i, .int .i64 tab] w fun e w' => e = .returned (.bool true) ∧ Below w.heap.size w w' := by
  have hl := h.hlen
  have C0 := hideR (awake4_any w)
  by_cases hs : len ≤ 300
  · have C1 := hideR (fun W (h : Bs W a len cap l) => ends_any a len cap l W h (by omega))
    have C2 := hideR (fun W (h : Bs W a len cap l) => refEnds_any a len cap l W h (by omega))
    have C3 := hideR (fun W x c y d (h : Is4 W x (endsI l).length c (endsI l)) (h' : Is4 W y (endsI l).length d (endsI l)) => refInts_same x y (endsI l).length c d (endsI l) W h h')
    have C4 := hideR (fun W (h : Bs W a len cap l) => begin_any a len cap l W h i)
    have C5 := hideR (fun W (h : Bs W a len cap l) => refBegin_any a len cap l W h i)
    have C6 := hideR (fun W (h : Bs W a len cap l) => line_any a len cap l W h i)
    have C7 := hideR (fun W (h : Bs W a len cap l) => refLine_any a len cap l W h i)
    have C8 := hideR (fun W (h : Bs W a len cap l) => first_any a len cap l W h i)
    have C9 := hideR (fun W (h : Bs W a len cap l) => refFirst_any a len cap l W h i)
    have C10 := hideR (fun W (h : Bs W a len cap l) => col_any a len cap l W h (by omega) i tab)
    have C11 := hideR (fun W (h : Bs W a len cap l) => refCol_any a len cap l W h (by omega) i tab)
    have HB := hideR h
    clear h
    generalize beginI l i = v1 at *
    generalize lineI l i = v2 at *
    generalize firstI l i = v3 at *
    generalize colI l i tab = v4 at *
    generalize endsI l = E at *
    go_enter Try.func3, Try.ntmps3
    go_wp2_with fail
    refine (unhideR C0).mono ?_
    rintro e w1 ⟨rfl, B1⟩
    clear C0
    have s1 := B1.size
    have F1 := hideR ((unhideR HB).later B1 (Nat.le_refl _))
    clear HB
    go_wp2_with fail
    refine (unhideR C1 _ (unhideR F1)).mono ?_
    rintro e w2 ⟨x2, c2, rfl, hE2, hb2⟩
    have B2 : Below w.heap.size w w2 := B1.trans (hb2.mono s1)
    have s2 := B2.size
    have F2 := hideR ((unhideR F1).later hb2 (Nat.le_refl _))
    clear hb2 B1 s1 F1 C1
    have E2 := hideR hE2
    clear hE2
    go_wp2_with fail
    refine (unhideR C2 _ (unhideR F2)).mono ?_
    rintro e w3 ⟨x3, c3, rfl, hE3, hb3⟩
    have B3 : Below w.heap.size w w3 := B2.trans (hb3.mono s2)
    have s3 := B3.size
    have F3 := hideR ((unhideR F2).later hb3 (Nat.le_refl _))
    have E3 := hideR ((unhideR E2).later hb3 (Nat.le_refl _))
    clear hb3 B2 s2 F2 E2 C2
    have G3 := hideR hE3
    clear hE3
    go_wp2_with fail
    refine (unhideR C3 _ _ _ _ _ (unhideR E3) (unhideR G3)).mono ?_
    rintro e w4 ⟨rfl, hb4⟩
    have B4 : Below w.heap.size w w4 := B3.trans (hb4.mono s3)
    have s4 := B4.size
    have F4 := hideR ((unhideR F3).later hb4 (Nat.le_refl _))
    clear hb4 B3 s3 F3 C3 E3 G3
    go_wp2_with fail
    refine (unhideR C4 _ (unhideR F4)).mono ?_
    rintro e w5 ⟨rfl, hb5⟩
    have B5 : Below w.heap.size w w5 := B4.trans (hb5.mono s4)
    have s5 := B5.size
    have F5 := hideR ((unhideR F4).later hb5 (Nat.le_refl _))
    clear hb5 B4 s4 F4 C4
    go_wp2_with fail
    refine (unhideR C5 _ (unhideR F5)).mono ?_
    rintro e w6 ⟨rfl, hb6⟩
    have B6 : Below w.heap.size w w6 := B5.trans (hb6.mono s5)
    have s6 := B6.size
    have F6 := hideR ((unhideR F5).later hb6 (Nat.le_refl _))
    clear hb6 B5 s5 F5 C5
    go_wp2_with fail
    refine (unhideR C6 _ (unhideR F6)).mono ?_
    rintro e w7 ⟨rfl, hb7⟩
    have B7 : Below w.heap.size w w7 := B6.trans (hb7.mono s6)
    have s7 := B7.size
    have F7 := hideR ((unhideR F6).later hb7 (Nat.le_refl _))
    clear hb7 B6 s6 F6 C6
    go_wp2_with fail
    refine (unhideR C7 _ (unhideR F7)).mono ?_
    rintro e w8 ⟨rfl, hb8⟩
    have B8 : Below w.heap.size w w8 := B7.trans (hb8.mono s7)
    have s8 := B8.size
    have F8 := hideR ((unhideR F7).later hb8 (Nat.le_refl _))
    clear hb8 B7 s7 F7 C7
    go_wp2_with fail
    refine (unhideR C8 _ (unhideR F8)).mono ?_
    rintro e w9 ⟨rfl, hb9⟩
    have B9 : Below w.heap.size w w9 := B8.trans (hb9.mono s8)
    have s9 := B9.size
    have F9 := hideR ((unhideR F8).later hb9 (Nat.le_refl _))
    clear hb9 B8 s8 F8 C8
    go_wp2_with fail
    refine (unhideR C9 _ (unhideR F9)).mono ?_
    rintro e w10 ⟨rfl, hb10⟩
    have B10 : Below w.heap.size w w10 := B9.trans (hb10.mono s9)
    have s10 := B10.size
    have F10 := hideR ((unhideR F9).later hb10 (Nat.le_refl _))
    clear hb10 B9 s9 F9 C9
    go_wp2_with fail
    refine (unhideR C10 _ (unhideR F10)).mono ?_
    rintro e w11 ⟨rfl, hb11⟩
    have B11 : Below w.heap.size w w11 := B10.trans (hb11.mono s10)
    have s11 := B11.size
    have F11 := hideR ((unhideR F10).later hb11 (Nat.le_refl _))
    clear hb11 B10 s10 F10 C10
    go_wp2_with fail
    refine (unhideR C11 _ (unhideR F11)).mono ?_
    rintro e w12 ⟨rfl, hb12⟩
    have B12 : Below w.heap.size w w12 := B11.trans (hb12.mono s11)
    have s12 := B12.size
    have F12 := hideR ((unhideR F11).later hb12 (Nat.le_refl _))
    clear hb12 B11 s11 F11 C11
    go_wp2_with fail
    go_ret
    exact ⟨rfl, B12⟩
  · have hs' : (300 : Int) < (len : Int) := by omega
    go_enter Try.func3, Try.ntmps3
    go_wp2_with fail
    refine (unhideR C0).mono ?_
    rintro e w1 ⟨rfl, B1⟩
    clear C0
    go_wp2_with fail
    go_ret
    exact ⟨rfl, B1⟩

end Go.Proofs.Ytjjfeeclpidblaa.Ln
