/- Contracts of the document's own answers of layer 5: HEXes, marks, Lits. -/
import Derived.Test.YtdaadeohamkoiaaGreatDoorTkRefA
import Derived.OwnWalk
import Derived.Deep.AppendLies
namespace Go.Proofs.YtdaadeohamkoiaaGreatDoor.T
open Go.RowKit
set_option linter.unusedVariables false
set_option linter.unusedSimpArgs false


set_option maxRecDepth 20000 in
set_option maxHeartbeats 1000000 in
theorem hex_any (s : ByteArray) (l : List Int) (h : St s l) (hs : l.length ≤ 1000000) (a : Nat) (ha : a ≤ 2000000) (w : World) :
    Calls Tryz.prog 89 #[.string s, .int .i64 a] w fun e w' => e = .returned (.int .i64 (hexI (l.drop a))) ∧ ∃ d, w' = w.drewN d := by
  have hsz := h.size
  by_cases h2 : a + 2 ≤ l.length
  · have x0 := h.ix (k := a) (by omega)
    have x1 := h.ix (k := a + 1) (by omega)
    have z0 := h.byte a
    have z1 := h.byte (a + 1)
    have CV := hideR (fun y (h0 : 0 ≤ y) (h1 : y ≤ 255) W => value_any y h0 h1 W)
    have v0 := val_range (l.getD a 0)
    have v1 := val_range (l.getD (a + 1) 0)
    have e : hexI (l.drop a) = if valI (l.getD a 0) < 0 ∨ valI (l.getD (a + 1) 0) < 0 then -1 else 16 * valI (l.getD a 0) + valI (l.getD (a + 1) 0) := by
      unfold hexI
      rw [drop_getD, drop_getD, Nat.add_zero]
    rw [show ((a + 1 : Nat) : Int) = (a : Int) + 1 by omega] at x1
    rw [e]
    clear e h
    generalize l.getD a 0 = y0 at *
    generalize l.getD (a + 1) 0 = y1 at *
    obtain ⟨z00, z01⟩ := z0
    obtain ⟨z10, z11⟩ := z1
    obtain ⟨u0, hu0⟩ : ∃ f : Int → Int, f = valI := ⟨_, rfl⟩
    rw [← hu0] at CV v0 v1 ⊢
    clear hu0
    by_cases c0 : u0 y0 < 0
    · rw [if_pos (.inl c0)]
      go_enter Tryz.func89, Tryz.ntmps89
      go_wp2_with fail
      refine (unhideR CV _ z00 z01 _).mono ?_
      rintro e w1 ⟨rfl, hw1⟩
      obtain rfl : w = w1 := hw1.symm
      go_wp2_with fail
      go_ret
      exact ⟨rfl, 0, rfl⟩
    · by_cases c1 : u0 y1 < 0
      · rw [if_pos (.inr c1)]
        go_enter Tryz.func89, Tryz.ntmps89
        go_wp2_with fail
        refine (unhideR CV _ z00 z01 _).mono ?_
        rintro e w1 ⟨rfl, hw1⟩
        obtain rfl : w = w1 := hw1.symm
        go_wp2_with fail
        refine (unhideR CV _ z10 z11 _).mono ?_
        rintro e w1 ⟨rfl, hw1⟩
        obtain rfl : w = w1 := hw1.symm
        go_wp2_with fail
        go_ret
        exact ⟨rfl, 0, rfl⟩
      · rw [if_neg (by omega)]
        have p1 := wrapI (16 * u0 y0) (by omega)
        have p2 := wrapI (16 * u0 y0 + u0 y1) (by omega)
        have p3 := wrapI ((a : Int) + 1) (by omega)
        go_enter Tryz.func89, Tryz.ntmps89
        go_wp2_with fail
        refine (unhideR CV _ z00 z01 _).mono ?_
        rintro e w1 ⟨rfl, hw1⟩
        obtain rfl : w = w1 := hw1.symm
        go_wp2_with fail
        refine (unhideR CV _ z10 z11 _).mono ?_
        rintro e w1 ⟨rfl, hw1⟩
        obtain rfl : w = w1 := hw1.symm
        go_wp2_with fail
        go_quiet ((go_at_call 138; exact Calls.quiet_of_same (unhideR CV _ (by assumption) (by assumption) _)))
        go_wp2_with fail
        go_ret
        exact ⟨rfl, _, rfl⟩
  · have e : hexI (l.drop a) = -1 := hex_no fun c => by
      have := hex_len c
      rw [List.length_drop] at this
      omega
    rw [e]
    have h2' : (l.length : Int) < (a : Int) + 2 := by omega
    go_enter Tryz.func89, Tryz.ntmps89
    go_wp2_with fail
    go_ret
    exact ⟨rfl, 0, rfl⟩

/-! ### Marks -/
theorem str_lit (l : List Int) (b : ByteArray) (h : b = strOfNums l) : b = strOfNums l := h
def markB (l : List Int) : Bool := decide (l ∈ marks)
set_option maxRecDepth 20000 in
set_option maxHeartbeats 1000000 in
theorem mark_any (s : ByteArray) (l : List Int) (h : St s l) (w : World) :
    Calls Tryz.prog 53 #[.string s] w fun e w' => e = .returned (.bool (markB l)) ∧ w' = w := by
  have key : ∀ (m : List Int), U.isBytes m → (s.toList = (m.map fun n => UInt8.ofNat n.toNat) ↔ l = m) := by
    intro m hm
    rw [ByteArray.toList_eq]
    constructor
    · intro e
      refine strOf_inj h.2 hm ?_
      rw [← h.1]
      cases hx : s with | mk x =>
        rw [hx] at e
        have : x = (m.map fun n => UInt8.ofNat n.toNat).toArray := by rw [← e]
        rw [this]; rfl
    · rintro rfl
      rw [h.1, strOfNums_data]
  have k1 : s.toList = [108, 111, 110, 103] ↔ l = [108, 111, 110, 103] := key [108, 111, 110, 103] (by intro z hz; simp at hz; omega)
  have k2 : s.toList = [114, 101, 115] ↔ l = [114, 101, 115] := key [114, 101, 115] (by intro z hz; simp at hz; omega)
  have k3 : s.toList = [111, 102, 102] ↔ l = [111, 102, 102] := key [111, 102, 102] (by intro z hz; simp at hz; omega)
  have k4 : s.toList = [98, 108, 111, 99, 107] ↔ l = [98, 108, 111, 99, 107] := key [98, 108, 111, 99, 107] (by intro z hz; simp at hz; omega)
  have k5 : s.toList = [97, 108, 105, 103, 110] ↔ l = [97, 108, 105, 103, 110] := key [97, 108, 105, 103, 110] (by intro z hz; simp at hz; omega)
  have k6 : s.toList = [115, 121, 110, 99] ↔ l = [115, 121, 110, 99] := key [115, 121, 110, 99] (by intro z hz; simp at hz; omega)
  clear key h
  by_cases c1 : l = [108, 111, 110, 103]
  · have d1 := k1.2 c1
    have e : markB l = true := by rw [c1]; decide
    rw [e]
    clear k1 k2 k3 k4 k5 k6 e c1
    go_enter Tryz.func53, Tryz.ntmps53
    go_wp2_with fail
    go_ret
    exact ⟨rfl, rfl⟩
  · have d1 : ¬ s.toList = [108, 111, 110, 103] := fun x => c1 (k1.1 x)
    clear k1
    by_cases c2 : l = [114, 101, 115]
    · have d2 := k2.2 c2
      have e : markB l = true := by rw [c2]; decide
      rw [e]
      clear k2 k3 k4 k5 k6 e c2
      go_enter Tryz.func53, Tryz.ntmps53
      go_wp2_with fail
      go_ret
      exact ⟨rfl, rfl⟩
    · have d2 : ¬ s.toList = [114, 101, 115] := fun x => c2 (k2.1 x)
      clear k2
      by_cases c3 : l = [111, 102, 102]
      · have d3 := k3.2 c3
        have e : markB l = true := by rw [c3]; decide
        rw [e]
        clear k3 k4 k5 k6 e c3
        go_enter Tryz.func53, Tryz.ntmps53
        go_wp2_with fail
        go_ret
        exact ⟨rfl, rfl⟩
      · have d3 : ¬ s.toList = [111, 102, 102] := fun x => c3 (k3.1 x)
        clear k3
        by_cases c4 : l = [98, 108, 111, 99, 107]
        · have d4 := k4.2 c4
          have e : markB l = true := by rw [c4]; decide
          rw [e]
          clear k4 k5 k6 e c4
          go_enter Tryz.func53, Tryz.ntmps53
          go_wp2_with fail
          go_ret
          exact ⟨rfl, rfl⟩
        · have d4 : ¬ s.toList = [98, 108, 111, 99, 107] := fun x => c4 (k4.1 x)
          clear k4
          by_cases c5 : l = [97, 108, 105, 103, 110]
          · have d5 := k5.2 c5
            have e : markB l = true := by rw [c5]; decide
            rw [e]
            clear k5 k6 e c5
            go_enter Tryz.func53, Tryz.ntmps53
            go_wp2_with fail
            go_ret
            exact ⟨rfl, rfl⟩
          · have d5 : ¬ s.toList = [97, 108, 105, 103, 110] := fun x => c5 (k5.1 x)
            clear k5
            by_cases c6 : l = [115, 121, 110, 99]
            · have d6 := k6.2 c6
              have e : markB l = true := by rw [c6]; decide
              rw [e]
              clear k6 e c6
              go_enter Tryz.func53, Tryz.ntmps53
              go_wp2_with fail
              go_ret
              exact ⟨rfl, rfl⟩
            · have d6 : ¬ s.toList = [115, 121, 110, 99] := fun x => c6 (k6.1 x)
              clear k6
              have e : markB l = false := by unfold markB marks; simp [c1, c2, c3, c4, c5, c6]
              rw [e]
              clear e
              go_enter Tryz.func53, Tryz.ntmps53
              go_wp2_with fail
              go_ret
              exact ⟨ret_bool (by simp [d1, d2, d3, d4, d5, d6]), rfl⟩

end Go.Proofs.YtdaadeohamkoiaaGreatDoor.T
