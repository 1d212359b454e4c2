/- Contracts of utf.Next, whole, and of utf.Units. -/
import Derived.Test.YtdaadeohamkoiaaGreatDoorUtfNext
namespace Go.Proofs.YtdaadeohamkoiaaGreatDoor
open Go.RowKit
set_option linter.unusedVariables false

/-- what Next tells of the bytes l at a place -/
def nx (l : List Int) (at' : Int) : Int × Nat := if at' < 0 ∨ (l.length : Int) ≤ at' then (-1, 0) else U.nextL (l.drop at'.toNat)

theorem Below.one {w : World} (o : Obj) : Below w.heap.size w (w.alloc o) := (Below.refl _ _).alloc (Nat.le_refl _) o

theorem next_any (a : Option Addr) (len cap : Nat) (l : List Int) (w : World) (h : Bs w a len cap l) (at' : Int) :
    Calls Tryz.prog 127 #[.slice a len cap, .int .i64 at'] w fun e w' => e = .returned (.tuple #[.int .i64 (nx l at').1, .int .i64 (nx l at').2]) ∧ Below w.heap.size w w' := by
  have hl := h.hlen
  by_cases ho : at' < 0 ∨ (len : Int) ≤ at'
  · have e : nx l at' = (-1, 0) := by unfold nx; rw [if_pos (by omega)]
    rw [e]
    refine (next_out a len cap w at' ho).mono ?_
    rintro e w' ⟨rfl, rfl⟩
    exact ⟨rfl, Below.refl _ _⟩
  · have e : nx l at' = U.nextL (l.drop at'.toNat) := by unfold nx; rw [if_neg (by omega)]
    rw [e]; clear e
    obtain ⟨n, rfl⟩ := Int.eq_ofNat_of_zero_le (by omega : 0 ≤ at')
    simp only [Int.toNat_natCast] at *
    have hn : n < len := by omega
    clear ho
    obtain ⟨b, off, rfl, hb⟩ := h.open (by omega)
    have hd := hb.drop n hn
    have hcap := h.hcap
    have hmax := h.hmax
    generalize l.drop n = l' at hd
    have c0 := hd.hcell 0 hd.hpos
    have b0 := U.isBytes_getD hd.hbytes 0
    rw [Nat.add_zero] at c0
    have hne : l' ≠ [] := by have := hd.hlen; have := hd.hpos; intro e; subst e; simp at *; omega
    have hmx : len - n ≤ maxLen := by omega
    have cw : ∀ i x, w.cell? ⟨b, i, none⟩ = some x → (w.alloc readersObj).cell? ⟨b, i, none⟩ = some x := by
      intro i x hx
      have hlt : b < w.heap.size := block_lt_of_cell hx
      rw [(Below.one (w := w) readersObj).cell (p := ⟨b, i, none⟩) hlt]; exact hx
    by_cases hs : len - n < U.manyN (l'.getD 0 0)
    · have e : U.nextL l' = (-1, 1) := by unfold U.nextL; rw [if_neg hne, hd.hlen, if_pos hs]
      rw [e]
      refine (next_short b off len cap w n _ _ rfl hn hcap hmax c0 b0 hs).mono ?_
      rintro e w' ⟨rfl, rfl⟩
      exact ⟨rfl, Below.refl _ _⟩
    · have e : U.nextL l' = if U.readN (U.manyN (l'.getD 0 0)) l' < 0 then (-1, 1) else (U.readN (U.manyN (l'.getD 0 0)) l', U.manyN (l'.getD 0 0)) := by
        unfold U.nextL; rw [if_neg hne, hd.hlen, if_neg hs]
      have fin : ∀ f : Nat, ((U.manyN (l'.getD 0 0) = 0 ∧ f = 172) ∨ (U.manyN (l'.getD 0 0) = 1 ∧ f = 173) ∨ (U.manyN (l'.getD 0 0) = 2 ∧ f = 174) ∨ (U.manyN (l'.getD 0 0) = 3 ∧ f = 175) ∨ (U.manyN (l'.getD 0 0) = 4 ∧ f = 176)) →
          (Calls Tryz.prog f #[.slice (some ⟨b, off + n, none⟩) (len - n) (cap - n)] (w.alloc readersObj) fun e w' => e = .returned (.int .i64 (U.readN (U.manyN (l'.getD 0 0)) l')) ∧ w' = w.alloc readersObj) →
          Calls Tryz.prog 127 #[.slice (some ⟨b, off, none⟩) len cap, .int .i64 n] w fun e w' => e = .returned (.tuple #[.int .i64 (U.nextL l').1, .int .i64 (U.nextL l').2]) ∧ Below w.heap.size w w' := by
        intro f hf hr
        refine (next_long b off len cap w n _ _ _ rfl hn hcap hmax c0 b0 (by omega) f hf hr (U.nextL l').1 (U.nextL l').2 ?_).mono ?_
        · rw [e]
          by_cases hr0 : U.readN (U.manyN (l'.getD 0 0)) l' < 0
          · rw [if_pos hr0]; exact .inl ⟨hr0, rfl, rfl⟩
          · rw [if_neg hr0]; exact .inr ⟨by omega, rfl, rfl⟩
        · rintro e w' ⟨rfl, rfl⟩
          exact ⟨rfl, Below.one _⟩
      have hm : U.manyN (l'.getD 0 0) = 0 ∨ U.manyN (l'.getD 0 0) = 1 ∨ U.manyN (l'.getD 0 0) = 2 ∨ U.manyN (l'.getD 0 0) = 3 ∨ U.manyN (l'.getD 0 0) = 4 := by
        unfold U.manyN; split; · simp
        split; · simp
        split; · simp
        split; · simp
        split <;> simp
      rcases hm with hm | hm | hm | hm | hm
      · refine fin 172 (.inl ⟨hm, rfl⟩) ?_
        rw [hm, show U.readN 0 l' = -1 by simp [U.readN]]
        exact none_any _ _ _ _ _
      · refine fin 173 (.inr (.inl ⟨hm, rfl⟩)) ?_
        rw [hm, show U.readN 1 l' = l'.getD 0 0 by simp [U.readN]]
        exact one_any _ _ _ _ _ _ (by omega) (cw _ _ c0) b0
      · refine fin 174 (.inr (.inr (.inl ⟨hm, rfl⟩))) ?_
        rw [hm] at hs
        rw [hm, show U.readN 2 l' = U.fromN 128 (U.addN (l'.getD 0 0 - 192) (l'.getD 1 0)) from rfl]
        exact two_any _ _ _ _ _ _ _ (by omega) hmx (cw _ _ c0) (cw _ _ (hd.hcell 1 (by omega))) b0 (U.isBytes_getD hd.hbytes 1)
      · refine fin 175 (.inr (.inr (.inr (.inl ⟨hm, rfl⟩)))) ?_
        rw [hm] at hs
        rw [hm, show U.readN 3 l' = U.fromN 2048 (U.addN (U.addN (l'.getD 0 0 - 224) (l'.getD 1 0)) (l'.getD 2 0)) from rfl]
        exact three_any _ _ _ _ _ _ _ _ (by omega) hmx (cw _ _ c0) (cw _ _ (hd.hcell 1 (by omega))) (cw _ _ (hd.hcell 2 (by omega))) b0 (U.isBytes_getD hd.hbytes 1) (U.isBytes_getD hd.hbytes 2)
      · refine fin 176 (.inr (.inr (.inr (.inr ⟨hm, rfl⟩)))) ?_
        rw [hm] at hs
        rw [hm, show U.readN 4 l' = U.fromN 65536 (U.addN (U.addN (U.addN (l'.getD 0 0 - 240) (l'.getD 1 0)) (l'.getD 2 0)) (l'.getD 3 0)) from rfl]
        exact four_any _ _ _ _ _ _ _ _ _ (by omega) hmx (cw _ _ c0) (cw _ _ (hd.hcell 1 (by omega))) (cw _ _ (hd.hcell 2 (by omega))) (cw _ _ (hd.hcell 3 (by omega))) b0 (U.isBytes_getD hd.hbytes 1) (U.isBytes_getD hd.hbytes 2) (U.isBytes_getD hd.hbytes 3)

/-- bytes that were there stay so while only new memory is made -/
theorem Bs.later {w w' : World} {a : Option Addr} {len cap : Nat} {l : List Int} (h : Bs w a len cap l) {B : Nat} (hb : Below B w w') (hB : w.heap.size ≤ B) : Bs w' a len cap l := by
  refine ⟨h.hlen, h.hcap, h.hmax, h.hbytes, fun i hi => ?_⟩
  obtain ⟨b, off, ha, hc⟩ := h.hcell i hi
  have hlt : b < w.heap.size := block_lt_of_cell hc
  exact ⟨b, off, ha, by rw [hb.cell (p := ⟨b, off + i, none⟩) (Nat.lt_of_lt_of_le hlt hB)]; exact hc⟩

end Go.Proofs.YtdaadeohamkoiaaGreatDoor
