/- The chapter's example, which every statement of layer 4 asks first: 'awake' returns true. -/
import Derived.Test.YtjjfeeclpidblaaLnCol
import Derived.Test.YtjjfeeclpidblaaLnEnds
import Derived.Test.YtjjfeeclpidblaaUtfAwake
import Derived.Lib.SlBytesConst
namespace Go.Proofs.Ytjjfeeclpidblaa.Ln
open Go.RowKit
set_option linter.unusedVariables false
set_option linter.unusedSimpArgs false

/-- the bytes of a constant -/
theorem bs_const (w : World) (l : List Int) (hb : U.isBytes l) (hl : l.length ≤ maxLen) (fr : Nat × Nat) : Bs (w.alloc (.cells (l.map (Value.int .u8)).toArray 5 fr)) (some ⟨w.heap.size, 0, none⟩) l.length l.length l := by
  refine ⟨rfl, Nat.le_refl _, hl, hb, fun i hi => ⟨_, _, rfl, ?_⟩⟩
  have : (w.alloc (.cells (l.map (Value.int .u8)).toArray 5 fr)).heap[w.heap.size]? = some (.cells (l.map (Value.int .u8)).toArray 5 fr) := World.alloc_heap_new w _
  unfold World.cell?
  rw [this]
  simp [List.getD, hi]

set_option maxRecDepth 20000 in
set_option maxHeartbeats 1000000 in
theorem awake4_any (w : World) :
    Calls Try.prog 10 #[] w fun e w' => e = .returned (.bool true) ∧ Below w.heap.size w w' := by
  obtain ⟨L, hL⟩ : ∃ L : List Int, L = [97, 9, 98, 10, 32, 99] := ⟨_, rfl⟩
  have hby : U.isBytes L := by subst hL; intro z hz; simp at hz; omega
  have v1 : colI L 2 4 = 4 := by subst hL; decide
  have v2 : lineI L 5 = 1 := by subst hL; decide
  have v3 : beginI L 6 = 4 := by subst hL; decide
  have v4 : firstI L 4 = 5 := by subst hL; decide
  have v5 : endsI L = [4, 6] := by subst hL; decide
  have hlen : L.length = 6 := by subst hL; rfl
  have F := hideR (bs_const w L hby (by rw [hlen]; unfold maxLen; omega) (6, 7))
  rw [hlen] at F
  have e0 : (w.alloc (.cells (L.map (Value.int .u8)).toArray 5 (6, 7))) = w.alloc (.cells #[.int .u8 97, .int .u8 9, .int .u8 98, .int .u8 10, .int .u8 32, .int .u8 99] 5 (6, 7)) := by subst hL; rfl
  rw [e0] at F
  have C1 := hideR (fun W (h : Bs W (some ⟨w.heap.size, 0, none⟩) 6 6 L) => ends_any _ _ _ L W h (by omega))
  have C2 := hideR (fun W (h : Bs W (some ⟨w.heap.size, 0, none⟩) 6 6 L) => col_any _ _ _ L W h (by omega) 2 4)
  have C3 := hideR (fun W (h : Bs W (some ⟨w.heap.size, 0, none⟩) 6 6 L) => line_any _ _ _ L W h 5)
  have C4 := hideR (fun W (h : Bs W (some ⟨w.heap.size, 0, none⟩) 6 6 L) => begin_any _ _ _ L W h 6)
  have C5 := hideR (fun W (h : Bs W (some ⟨w.heap.size, 0, none⟩) 6 6 L) => first_any _ _ _ L W h 4)
  rw [v5] at C1
  rw [v1] at C2
  rw [v2] at C3
  rw [v3] at C4
  rw [v4] at C5
  clear v1 v2 v3 v4 v5 e0 hby hlen hL
  have kc := fun (w : World) (C : Array Value) (n c : Nat) => Lib.run_convert_bytes_const (P := Try.prog) w 22 5 C n c Try.underlying22 Try.underlying5
  go_enter Try.func10, Try.ntmps10
  go_wp2_with fail
  refine (unhideR C1 _ (unhideR F)).mono ?_
  rintro e w1 ⟨x, c, rfl, hE, hb1⟩
  have B1 : Below w.heap.size w w1 := (new1 _).trans (hb1.mono (by simp))
  have s1 := B1.size
  have F1 := hideR ((unhideR F).later hb1 (Nat.le_refl _))
  have HE := hideR hE
  simp only [List.length_cons, List.length_nil, Nat.reduceAdd] at HE ⊢
  clear C1 F hb1 hE kc
  go_wp2_with fail
  refine (unhideR C2 _ (unhideR F1)).mono ?_
  rintro e w2 ⟨rfl, hb2⟩
  have B2 : Below w.heap.size w w2 := B1.trans (hb2.mono s1)
  have F2 := hideR ((unhideR F1).later hb2 (Nat.le_refl _))
  have HE2 := hideR ((unhideR HE).later hb2 (Nat.le_refl _))
  have s2 := B2.size
  clear C2 F1 HE hb2 B1 s1
  go_wp2_with fail
  refine (unhideR C3 _ (unhideR F2)).mono ?_
  rintro e w3 ⟨rfl, hb3⟩
  have B3 : Below w.heap.size w w3 := B2.trans (hb3.mono s2)
  have F3 := hideR ((unhideR F2).later hb3 (Nat.le_refl _))
  have HE3 := hideR ((unhideR HE2).later hb3 (Nat.le_refl _))
  have s3 := B3.size
  clear C3 F2 HE2 hb3 B2 s2
  go_wp2_with fail
  refine (unhideR C4 _ (unhideR F3)).mono ?_
  rintro e w4 ⟨rfl, hb4⟩
  have B4 : Below w.heap.size w w4 := B3.trans (hb4.mono s3)
  have F4 := hideR ((unhideR F3).later hb4 (Nat.le_refl _))
  have HE4 := hideR ((unhideR HE3).later hb4 (Nat.le_refl _))
  have s4 := B4.size
  clear C4 F3 HE3 hb4 B3 s3
  go_wp2_with fail
  refine (unhideR C5 _ (unhideR F4)).mono ?_
  rintro e w5 ⟨rfl, hb5⟩
  have B5 : Below w.heap.size w w5 := B4.trans (hb5.mono s4)
  have hE5 := (unhideR HE4).later hb5 (Nat.le_refl _)
  clear C5 F4 HE4 hb5 B4 s4
  obtain ⟨b, off, rfl, hc⟩ := hE5.open (by omega)
  have c0 : w5.cell? ⟨b, off, none⟩ = some (.int .i64 4) := hc 0 (by omega)
  have c1 : w5.cell? ⟨b, off + 1, none⟩ = some (.int .i64 6) := hc 1 (by omega)
  clear hE5 hc
  go_wp2_with fail
  go_ret
  exact ⟨rfl, B5⟩

end Go.Proofs.Ytjjfeeclpidblaa.Ln
