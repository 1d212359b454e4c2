/- Contracts of package token: blanks, and all tokens. -/
import Derived.Test.YtlofickahemlfaaGreatDoorTkN
namespace Go.Proofs.YtlofickahemlfaaGreatDoor.T
open Go.RowKit
set_option linter.unusedVariables false
set_option linter.unusedSimpArgs false

def skipN : List Int → Nat
  | [] => 0
  | z :: t => if isBl z then skipN t + 1 else 0
theorem skip_len : ∀ r : List Int, skipN r ≤ r.length := by
  intro r
  induction r with
  | nil => simp [skipN]
  | cons z t ih => simp only [skipN]; split <;> simp <;> omega
theorem bl_byte : ∀ n : Fin 256, ([32, 9, 10, 13] : List UInt8).contains (UInt8.ofNat n.val) = isBl (n.val : Int) := by decide +kernel
theorem bl_byte' {z : Int} (h0 : 0 ≤ z) (h1 : z ≤ 255) : ([32, 9, 10, 13] : List UInt8).contains (UInt8.ofNat z.toNat) = isBl z := by
  have := bl_byte ⟨z.toNat, by omega⟩
  simp only [Int.toNat_of_nonneg h0] at this
  exact this
theorem trim_len : ∀ r : List Int, U.isBytes r → (Lib.trimLeftS (Lib.bytesOf r) [32, 9, 10, 13]).length = r.length - skipN r := by
  intro r
  induction r with
  | nil => intro _; rfl
  | cons z t ih =>
    intro hb
    have hz := U.isBytes_head hb
    have := ih (U.isBytes_tail hb)
    unfold Lib.trimLeftS Lib.bytesOf at *
    rw [List.map_cons, List.dropWhile_cons, bl_byte' hz.1 hz.2]
    simp only [skipN, List.length_cons]
    cases h : isBl z with
    | true =>
      simp only [if_true]
      rw [this]
      omega
    | false =>
      simp
theorem tail_run8 (a : Option Addr) (len cap k : Nat) (i : Int) (hi : i = (k : Int)) (hk : k ≤ len) : ∀ W, (Instr.slice 43 (.slice a len cap) (some (.int .i64 i)) none none).run Tryz.prog W = .ok (.slice (dropA a cap k) (len - k) (cap - k)) W := by
  intro W
  subst hi
  have hu : Tryz.prog.underlying 43 = some (.slice 5) := Tryz.underlying43
  unfold Instr.slice dropA
  simp [hu, run_underlying, Instr.sliceBounds, Instr.sliceBound, asIntOf, hk, Tryz.sizeOf5]
theorem trim_l (a : Option Addr) (len cap : Nat) (l : List Int) (w : World) (h : Bs w a len cap l) :
    Calls Tryz.prog 42 #[.slice a len cap, .string ⟨#[32, 9, 10, 13]⟩] w fun e w' => (∃ x c, e = .returned (.slice x (len - skipN l) c)) ∧ Below w.heap.size w w' := by
  have hm := h.hmax
  unfold maxLen at hm
  have := Any.bytes_TrimLeft_laid trimL_lays (by kernel_rfl) a len cap l ⟨#[32, 9, 10, 13]⟩ w h.hlen h.hcap (by omega) (Bs.bytesIn h) (fun x hx => by have := h.hbytes x hx; omega) (by decide) (fun j b hb => by have := List.mem_of_getElem? hb; simp at this; rcases this with rfl | rfl | rfl | rfl <;> decide)
  have hl := trim_len l h.hbytes
  have hs := skip_len l
  rw [h.hlen] at hl hs
  refine Calls.mono this fun e w' hh => ⟨?_, hh.2⟩
  rw [hh.1]
  show ∃ x c, Ending.returned (Lib.leftV a len cap (len - (Lib.trimLeftS (Lib.bytesOf l) [32, 9, 10, 13]).length)) = _
  rw [hl, show len - (len - skipN l) = skipN l by omega]
  unfold Lib.leftV Lib.fromV
  split
  · next c => exact ⟨none, 0, by rw [c]; simp⟩
  · exact ⟨_, _, rfl⟩
set_option maxRecDepth 20000 in
set_option maxHeartbeats 2000000 in
theorem blanks_l (a : Option Addr) (len cap : Nat) (l : List Int) (w : World) (h : Bs w a len cap l) (hl : len ≤ 1000000) (k : Nat) (hk : k ≤ len) :
    Calls Tryz.prog 24 #[.slice a len cap, .int .i64 k] w fun e w' => e = .returned (.int .i64 ((k + skipN (l.drop k) : Nat) : Int)) ∧ Below w.heap.size w w' := by
  have hlen := h.hlen
  have sl := tail_run8 a len cap k k rfl hk
  have C := hideR (trim_l _ _ _ _ w (Bs.dropA h k hk))
  have hs := skip_len (l.drop k)
  rw [List.length_drop] at hs
  clear h
  generalize skipN (l.drop k) = m at *
  have t1 := wrapI ((len : Int) - ((len - k - m : Nat) : Int)) (by omega)
  go_enter Tryz.func24, Tryz.ntmps24
  go_wp2_with fail
  refine (unhideR C).mono ?_
  rintro e w1 ⟨⟨x, c, rfl⟩, b1⟩
  clear C
  go_wp2_with fail
  go_ret
  exact ⟨by show Ending.returned (Value.int .i64 _) = _; congr 2; omega, b1⟩
end Go.Proofs.YtlofickahemlfaaGreatDoor.T
