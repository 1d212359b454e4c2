/- The walk of LinesEnds. -/
import Derived.Test.YtjjfeeclpidblaaLnAwake
namespace Go.Proofs.Ytjjfeeclpidblaa.Ln
open Go.RowKit
set_option linter.unusedVariables false
set_option linter.unusedSimpArgs false

theorem bopen {w : World} {b off len cap : Nat} {l : List Int} (h : Bs w (some ⟨b, off, none⟩) len cap l) (hp : 1 ≤ len) : Bb w b off len cap l := by
  obtain ⟨b', off', e, hb⟩ := h.open hp
  injection e with e
  injection e with e1 e2
  subst e1; subst e2
  exact hb
theorem EOk_head {l : List Int} {f j : Nat} {en : List Nat} (h : EOk l f (en.drop j)) (hj : j < en.length) : f < en.getD j 0 ∧ en.getD j 0 ≤ l.length ∧ (∀ k, f ≤ k → k < en.getD j 0 → l.getD k 0 = 10 → k = en.getD j 0 - 1) ∧ (j + 1 < en.length → l.getD (en.getD j 0 - 1) 0 = 10) ∧ EOk l (en.getD j 0) (en.drop (j + 1)) := by
  have e : en.drop j = en.getD j 0 :: en.drop (j + 1) := by
    rw [List.drop_eq_getElem_cons hj]
    simp [List.getD, hj]
  rw [e] at h
  obtain ⟨h1, h2, h3, h4, h5⟩ := h
  refine ⟨h1, h2, h3, fun hj2 => h4 ?_, h5⟩
  intro c
  have := congrArg List.length c
  rw [List.length_drop, List.length_nil] at this
  omega
theorem EOk_last {l : List Int} : ∀ (en : List Nat) (f : Nat), EOk l f en → en ≠ [] → en.getD (en.length - 1) 0 = l.length := by
  intro en
  induction en with
  | nil => intro f _ h; exact absurd rfl h
  | cons e t ih =>
    intro f h _
    obtain ⟨_, _, _, _, h5⟩ := h
    cases t with
    | nil => exact h5
    | cons e2 t2 =>
      have := ih e h5 (by simp)
      simpa [List.getD] using this
theorem endsI_at (l : List Int) (j : Nat) : (endsI l).getD j 0 = (((endsL l).getD j 0 : Nat) : Int) := by
  unfold endsI
  simp only [List.getD, List.getElem?_map]
  cases (endsL l)[j]? <;> rfl
theorem endsI_len (l : List Int) : (endsI l).length = (endsL l).length := by simp [endsI]

set_option maxRecDepth 20000 in
set_option maxHeartbeats 2000000 in
theorem linesEnds_walk (a : Option Addr) (len cap : Nat) (l : List Int) (w : World) (h : Bs w a len cap l) :
    Calls Try.prog 6 #[.slice a len cap] w fun e w' => e = .returned (.bool true) ∧ Below w.heap.size w w' := by
  have hl := h.hlen
  have hmax := h.hmax
  have hcap := h.hcap
  unfold maxLen at hmax
  have C0 := hideR (awake4_any w)
  by_cases o1 : (300 : Int) < (len : Int)
  · go_enter Try.func6, Try.ntmps6
    go_wp2_with fail
    refine (unhideR C0).mono ?_
    rintro e w1 ⟨rfl, B1⟩
    clear C0
    go_wp2_with fail
    go_ret
    exact ⟨rfl, B1⟩
  · skip
    have hs : len ≤ 300 := by omega
    clear o1
    have C1 := hideR (fun W (h : Bs W a len cap l) => ends_any a len cap l W h (by omega))
    rw [endsI_len] at C1
    have hle := ends_bd l
    rw [endsI_len, hl] at hle
    have hat := hideR (endsI_at l)
    have HB := hideR h
    clear h
    by_cases h0 : len = 0
    · subst h0
      obtain rfl : l = [] := List.eq_nil_of_length_eq_zero hl
      have el : (endsL []).length = 1 := rfl
      have ea : (endsI []).getD 0 0 = 0 := rfl
      rw [el] at C1
      generalize endsI [] = E at *
      clear hat hle el
      go_enter Try.func6, Try.ntmps6
      go_wp2_with fail
      refine (unhideR C0).mono ?_
      rintro e w1 ⟨rfl, B1⟩
      clear C0
      have s1 := B1.size
      have F1 := hideR ((unhideR HB).later B1 (Nat.le_refl _))
      clear HB
      go_wp2_with fail
      refine (unhideR C1 _ (unhideR F1)).mono ?_
      rintro e w2 ⟨x, c, rfl, hE, hb2⟩
      have B2 : Below w.heap.size w w2 := B1.trans (hb2.mono s1)
      have s2 := B2.size
      have F2 := hideR ((unhideR F1).later hb2 (Nat.le_refl _))
      clear hb2 B1 s1 F1 C1
      obtain ⟨b, off, rfl, hc⟩ := hE.open (by omega)
      have c0 := hc 0 (by omega)
      rw [ea, Nat.add_zero] at c0
      clear hc hE ea F2
      go_wp2_with fail
      go_loopw [5, 6] (fun u v wr => ∃ j : Nat, j ≤ 1 ∧ u = .int .i64 0 ∧ v = .int .i64 j ∧ wr = w2) (fun _ v _ => 1 - (intOf v).toNat)
      case atStart => exact ⟨0, by omega, rfl, rfl, by trivial⟩
      case round =>
        obtain ⟨j, hj, rfl, rfl, hw⟩ := hrel
        obtain rfl : wr = w2 := hw
        by_cases hj1 : j = 0
        · subst hj1
          go_wp2_with fail
          generalize hW : wr = W4 at *
          go_loopw [7] (fun u wx => u = .int .i64 0 ∧ wx = W4) (fun _ _ => 0)
          case atStart => exact ⟨rfl, by trivial⟩
          case round =>
            obtain ⟨rfl, hw⟩ := hrel
            obtain rfl : wr = W4 := hw
            go_wp2_with fail
            go_roundw
            case rel => exact ⟨1, by omega, rfl, by go_num, by first | trivial | exact hW.symm⟩
            case measure => simp [intOf]
        · obtain rfl : j = 1 := by omega
          go_wp2_with fail
          go_ret
          exact ⟨rfl, B2⟩
    · obtain ⟨b2, off2, rfl, _⟩ := (unhideR HB).open (by omega)
      have hne : l ≠ [] := by intro e; subst e; exact h0 hl.symm
      have hok := ends_ok hne
      have hnz := ends_ne l
      have hlast := EOk_last (endsL l) 0 hok hnz
      rw [hl] at hlast
      generalize endsL l = en at *
      generalize endsI l = E at *
      obtain ⟨q, hq⟩ : ∃ q, en.length = q + 1 := ⟨en.length - 1, by cases en <;> simp_all⟩
      rw [hq, show q + 1 - 1 = q by omega] at hlast
      have HK : Hid (EOk l 0 (en.drop 0)) := hok
      have HQ := hideR hq
      rw [hq] at C1 hle
      have eq0 : ((q : Int) + 1 == 0) = false := by rw [beq_eq_false_iff_ne]; omega
      clear hok hnz hne hq
      go_enter Try.func6, Try.ntmps6
      go_wp2_with fail
      refine (unhideR C0).mono ?_
      rintro e w1 ⟨rfl, B1⟩
      clear C0
      have s1 := B1.size
      have F1 := hideR ((unhideR HB).later B1 (Nat.le_refl _))
      clear HB
      go_wp2_with fail
      refine (unhideR C1 _ (unhideR F1)).mono ?_
      rintro e w2 ⟨x, c, rfl, hE, hb2⟩
      have B2 : Below w.heap.size w w2 := B1.trans (hb2.mono s1)
      have s2 := B2.size
      have F2 := hideR ((unhideR F1).later hb2 (Nat.le_refl _))
      clear hb2 B1 s1 F1 C1
      obtain ⟨b, off, rfl, hc⟩ := hE.open (by omega)
      have HC : Hid (∀ j, j < q + 1 → w2.cell? ⟨b, off + j, none⟩ = some (.int .i64 ((en.getD j 0 : Nat) : Int))) := fun j hj => by rw [← unhideR hat j]; exact hc j hj
      clear hc hE hat
      have c0 := unhideR HC q (by omega)
      rw [hlast] at c0
      go_wp2_with fail
      clear c0 hlast
      go_loopw [5, 6] (fun u v wr => ∃ f j : Nat, f ≤ len ∧ j ≤ q + 1 ∧ u = .int .i64 f ∧ v = .int .i64 j ∧ Hid (EOk l f (en.drop j)) ∧ wr = w2) (fun _ v _ => q + 1 - (intOf v).toNat)
      case atStart => exact ⟨0, 0, by omega, by omega, rfl, rfl, HK, by trivial⟩
      case round =>
        obtain ⟨f, j, hf, hj, rfl, rfl, hK, hw⟩ := hrel
        obtain rfl : wr = w2 := hw
        clear HK
        by_cases hj1 : j < q + 1
        · obtain ⟨k1, k2, k3, k4, k5⟩ := EOk_head hK.out (by rw [unhideR HQ]; exact hj1)
          have c0 := unhideR HC j hj1
          rw [unhideR HQ] at k4
          rw [hl] at k2
          have K3 := hideR k3
          have K4 := hideR k4
          have K5 := hideR k5
          clear hK k3 k4 k5
          generalize en.getD j 0 = e1 at *
          obtain ⟨p, rfl⟩ : ∃ p, e1 = p + 1 := ⟨e1 - 1, by omega⟩
          rw [show p + 1 - 1 = p by omega] at K3 K4
          have ef : ((p : Int) + 1 == (f : Int)) = false := by rw [beq_eq_false_iff_ne]; omega
          by_cases hj0 : j = 0
          · subst hj0
            rw [Nat.add_zero] at c0
            go_wp2_with fail
            generalize hW : wr = W4 at *
            go_loopw [7] (fun u wx => ∃ k : Nat, f ≤ k ∧ k ≤ p + 1 ∧ u = .int .i64 k ∧ wx = W4) (fun u _ => p + 1 - (intOf u).toNat)
            case atStart => exact ⟨f, Nat.le_refl _, by omega, rfl, by trivial⟩
            case round =>
              obtain ⟨k, hk0, hk, rfl, hw⟩ := hrel
              obtain rfl : wr = W4 := hw
              by_cases hlt : k < p + 1
              · have hb := bopen (unhideR F2) (by omega)
                obtain ⟨z, hz, z0, z1, cz⟩ := bat hb k (by omega)
                by_cases h10 : z = 10
                · subst h10
                  obtain rfl : k = p := unhideR K3 k hk0 hlt hz
                  clear hb hz K3 K4 K5 HC HQ
                  go_wp2_with fail
                  go_roundw
                  case rel => exact ⟨k + 1, by omega, by omega, by go_num, by trivial⟩
                  case measure => simp [intOf]
                · have ez : (z == 10) = false := by rw [beq_eq_false_iff_ne]; exact h10
                  clear hb hz K3 K4 K5 HC HQ
                  go_wp2_with fail
                  go_roundw
                  case rel => exact ⟨k + 1, by omega, by omega, by go_num, by trivial⟩
                  case measure => first | (simp [intOf]; done) | (simp [intOf]; omega)
              · obtain rfl : k = p + 1 := by omega
                by_cases hj2 : 0 < q
                · have hb := bopen (unhideR F2) (by omega)
                  obtain ⟨z, hz, z0, z1, cz⟩ := bat hb p (by omega)
                  rw [unhideR K4 (by omega)] at hz
                  subst hz
                  clear hb K3 K4 HC HQ
                  go_wp2_with fail
                  go_roundw
                  case rel => exact ⟨p + 1, 0 + 1, by omega, by omega, by go_num, by go_num, K5, by first | trivial | exact hW.symm⟩
                  case measure => first | (simp [intOf]; done) | (simp [intOf]; omega)
                · clear K3 K4 HC HQ
                  go_wp2_with fail
                  go_roundw
                  case rel => exact ⟨p + 1, 0 + 1, by omega, by omega, by go_num, by go_num, K5, by first | trivial | exact hW.symm⟩
                  case measure => first | (simp [intOf]; done) | (simp [intOf]; omega)
          · have hj0p : 0 < j := by omega
            go_wp2_with fail
            generalize hW : wr = W4 at *
            go_loopw [7] (fun u wx => ∃ k : Nat, f ≤ k ∧ k ≤ p + 1 ∧ u = .int .i64 k ∧ wx = W4) (fun u _ => p + 1 - (intOf u).toNat)
            case atStart => exact ⟨f, Nat.le_refl _, by omega, rfl, by trivial⟩
            case round =>
              obtain ⟨k, hk0, hk, rfl, hw⟩ := hrel
              obtain rfl : wr = W4 := hw
              by_cases hlt : k < p + 1
              · have hb := bopen (unhideR F2) (by omega)
                obtain ⟨z, hz, z0, z1, cz⟩ := bat hb k (by omega)
                by_cases h10 : z = 10
                · subst h10
                  obtain rfl : k = p := unhideR K3 k hk0 hlt hz
                  clear hb hz K3 K4 K5 HC HQ
                  go_wp2_with fail
                  go_roundw
                  case rel => exact ⟨k + 1, by omega, by omega, by go_num, by trivial⟩
                  case measure => simp [intOf]
                · have ez : (z == 10) = false := by rw [beq_eq_false_iff_ne]; exact h10
                  clear hb hz K3 K4 K5 HC HQ
                  go_wp2_with fail
                  go_roundw
                  case rel => exact ⟨k + 1, by omega, by omega, by go_num, by trivial⟩
                  case measure => first | (simp [intOf]; done) | (simp [intOf]; omega)
              · obtain rfl : k = p + 1 := by omega
                by_cases hj2 : j < q
                · have hb := bopen (unhideR F2) (by omega)
                  obtain ⟨z, hz, z0, z1, cz⟩ := bat hb p (by omega)
                  rw [unhideR K4 (by omega)] at hz
                  subst hz
                  clear hb K3 K4 HC HQ
                  go_wp2_with fail
                  go_roundw
                  case rel => exact ⟨p + 1, j + 1, by omega, by omega, by go_num, by go_num, K5, by first | trivial | exact hW.symm⟩
                  case measure => first | (simp [intOf]; done) | (simp [intOf]; omega)
                · clear K3 K4 HC HQ
                  go_wp2_with fail
                  go_roundw
                  case rel => exact ⟨p + 1, j + 1, by omega, by omega, by go_num, by go_num, K5, by first | trivial | exact hW.symm⟩
                  case measure => first | (simp [intOf]; done) | (simp [intOf]; omega)
        · obtain rfl : j = q + 1 := by omega
          clear HC HQ hK
          go_wp2_with fail
          go_ret
          exact ⟨rfl, B2⟩

end Go.Proofs.Ytjjfeeclpidblaa.Ln
