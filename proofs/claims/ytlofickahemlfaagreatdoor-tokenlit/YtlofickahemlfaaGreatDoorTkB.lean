/- Contracts of package token: what a tail begins by, its digits, its name. -/
import Derived.Test.YtlofickahemlfaaGreatDoorTkA
namespace Go.Proofs.YtlofickahemlfaaGreatDoor.T
open Go.RowKit
set_option linter.unusedVariables false
set_option linter.unusedSimpArgs false

theorem Bs.bytesIn {w : World} {a : Option Addr} {len cap : Nat} {l : List Int} (h : Bs w a len cap l) : Lib.BytesIn w a len l := by
  intro hp
  obtain ⟨b, off, ha, hb⟩ := h.open hp
  exact ⟨b, off, ha, hb.hcell⟩
/-- does it begin by these? -/
def pre (p l : List Int) : Bool := decide (l.take p.length = p)
theorem pre_is {p l : List Int} (hp : U.isBytes p) (hl : U.isBytes l) : Lib.hasPrefix (Lib.bytesOf l) (Lib.bytesOf p) = pre p l := by
  unfold Lib.hasPrefix Lib.bytesOf pre
  induction p generalizing l with
  | nil => simp
  | cons x p ih =>
    cases l with
    | nil => simp [List.isPrefixOf]
    | cons y l =>
      have hx := hp x (List.mem_cons_self ..)
      have hy := hl y (List.mem_cons_self ..)
      have := ih (l := l) (fun z hz => hp z (List.mem_cons_of_mem _ hz)) (fun z hz => hl z (List.mem_cons_of_mem _ hz))
      rw [List.map_cons, List.map_cons, List.isPrefixOf, this, Bool.eq_iff_iff]
      simp only [Bool.and_eq_true, beq_iff_eq, decide_eq_true_eq, List.length_cons, List.take_succ_cons, List.cons.injEq]
      refine and_congr_left fun _ => ⟨fun h => ?_, fun h => by rw [h]⟩
      have := congrArg UInt8.toNat h
      simp [UInt8.toNat_ofNat'] at this
      omega
theorem bs_conv' (w : World) {s : ByteArray} {l : List Int} (h : St s l) (hl : l.length ≤ maxLen) (fr : Nat × Nat) :
    Bs ((w.alloc (.cells (bytesRow s (grownCap w s.size 0 5)) 5 fr)).drew) (some ⟨w.heap.size, 0, none⟩) s.size (grownCap w s.size 0 5) l := bs_conv w h hl fr
theorem new_drew' {w : World} (o : Obj) : Below w.heap.size w (w.alloc o).drew := ((Below.refl _ _).alloc (Nat.le_refl _) o).trans (draws_b (k := 1))
set_option maxRecDepth 20000 in
set_option maxHeartbeats 1000000 in
theorem begins_l (a : Option Addr) (len cap : Nat) (l : List Int) (w : World) (h : Bs w a len cap l) (s : ByteArray) (p : List Int) (hs : St s p) (hp : p.length ≤ 1000) :
    Calls Tryz.prog 62 #[.slice a len cap, .string s] w fun e w' => e = .returned (.bool (pre p l)) ∧ Below w.heap.size w w' := by
  have kc := fun W => run_bytes_of_string (P := Tryz.prog) W 9 43 5 s Tryz.underlying9 Tryz.underlying43 Tryz.underlying5
  have hsz := hs.size
  have BC := hideR (fun W fr => bs_conv' W hs (by unfold maxLen; omega) fr)
  have CP : ∀ W x c, Bs W a len cap l → Bs W x s.size c p → Calls Tryz.prog 91 #[.slice a len cap, .slice x s.size c] W fun e w' => e = .returned (.bool (pre p l)) ∧ w' = W := by
    intro W x c h1 h2
    have := Any.bytes_HasPrefix_all hasPre_lays a x len cap s.size c l p W h1.hlen h2.hlen h1.hcap (Bs.bytesIn h1) (Bs.bytesIn h2)
    rw [pre_is hs.2 h1.hbytes] at this
    exact this
  have HB := hideR h
  have CPH := hideR CP
  clear CP h hs hsz
  generalize pre p l = r at *
  go_enter Tryz.func62, Tryz.ntmps62
  go_wp2_with fail
  refine (unhideR CPH _ _ _ (Bs.later (unhideR HB) (new_drew' _) (Nat.le_refl _)) (unhideR BC _ _)).mono ?_
  rintro e w1 ⟨rfl, hw1⟩
  subst hw1
  go_wp2_with fail
  go_ret
  exact ⟨rfl, new_drew' _⟩
end Go.Proofs.YtlofickahemlfaaGreatDoor.T
