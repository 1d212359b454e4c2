/- The walk of the statement UtfJoin. -/
import Derived.Test.YtdaadeohamkoiaaGreatDoorUtfAwake
namespace Go.Proofs.YtdaadeohamkoiaaGreatDoor
open Go.RowKit
set_option linter.unusedVariables false

/-- all that is put, one behind the other -/
def joinL : List Int → List Int
  | [] => []
  | z :: zs => (if U.mayB z = true then U.putL z else []) ++ joinL zs
def joinN : List Int → Nat
  | [] => 0
  | z :: zs => (if U.mayB z = true then 1 else 0) + joinN zs
theorem joinL_bytes : ∀ zs : List Int, U.isBytes (joinL zs)
  | [] => fun z hz => by simp [joinL] at hz
  | z :: zs => by
    intro y hy
    simp only [joinL, List.mem_append] at hy
    rcases hy with hy | hy
    · split at hy
      · rename_i h; exact U.putL_bytes h y hy
      · simp at hy
    · exact joinL_bytes zs y hy
theorem joinL_units : ∀ zs : List Int, U.units (joinL zs) = joinN zs
  | [] => rfl
  | z :: zs => by
    simp only [joinL, joinN]
    split
    · rename_i h; rw [U.units_put h (joinL_bytes zs), joinL_units zs]
    · simp [joinL_units zs]
theorem joinL_snoc : ∀ (zs : List Int) (z : Int), joinL (zs ++ [z]) = joinL zs ++ (if U.mayB z = true then U.putL z else [])
  | [], z => by simp [joinL]
  | y :: zs, z => by simp only [List.cons_append, joinL, joinL_snoc zs z, List.append_assoc]
theorem joinN_snoc : ∀ (zs : List Int) (z : Int), joinN (zs ++ [z]) = joinN zs + (if U.mayB z = true then 1 else 0)
  | [], z => by simp [joinN]
  | y :: zs, z => by simp only [List.cons_append, joinN, joinN_snoc zs z, Nat.add_assoc]
theorem joinL_len : ∀ zs : List Int, (joinL zs).length ≤ 4 * zs.length
  | [] => by simp [joinL]
  | z :: zs => by
    simp only [joinL, List.length_append, List.length_cons]
    have := joinL_len zs
    split
    · have := (U.putL_len z).2; omega
    · simp; omega
theorem joinN_len : ∀ zs : List Int, joinN zs ≤ zs.length
  | [] => by simp [joinN]
  | z :: zs => by
    simp only [joinN, List.length_cons]
    have := joinN_len zs
    split <;> omega

theorem info_byte : (Tryz.prog.info? 5).map (fun i => (i.zero, i.size, i.bytes)) = some (some (.int .u8 0), 1, 1) := by kernel_rfl

/-- 'append' of nothing onto a row of the call's own -/
theorem wpList_append_none {P : Program} (w : World) {ops : Array Oper} {rest : List Oper} {o : Oper} {a : Act} {Q : Exit → Act → World → Prop}
    (hg : o.guard = none) (s x : Operand) (t : TypeId) (hop : o.op = Op.call { callee := Callee.builtin Builtin.append, args := #[s, x], argTypes := #[t, t] })
    (base : Nat) (e : TypeId) (i : TypeInfo) (size : Nat) (h1 : P.underlying t = some (.slice e)) (h2 : P.info? e = some i)
    (v : Value) (n : Nat) (xs : List Value) (hs : a.eval s = v) (hown : w.ownsRow base e size v n xs) (hx : a.eval x = .slice none 0 0)
    (hK : wpList P ops Q rest (a.put o.dst v) w) : wpList P ops Q (o :: rest) a w := by
  refine wpList_plain hg fun K hK' => ?_
  have hrun := run_append_owned_none (P := P) w base t o.type e i size h1 h2 v n xs hown
  unfold Oper.wp
  simp [execOp, hop, resolve, invoke, builtin, hs, hx, hrun, Result.andThen]
  exact hK' _ _ hK

/-- a row of bytes of the call's own, as bytes -/
theorem Bs.ofOwn {w : World} {base : Nat} {v : Value} {n : Nat} {l : List Int} (hb : U.isBytes l) (h : w.ownsRow base 5 1 v n (l.map (Value.int .u8))) : ∃ a cap, v = .slice a n cap ∧ Bs w a n cap l := by
  obtain ⟨h1, h2⟩ := h
  have hl : l.length = n := by simpa using h1
  rcases h2 with ⟨rfl, rfl⟩ | ⟨g, cap, cur, rfl, _, hg, hnc, hcm, hcs, hx⟩
  · exact ⟨none, 0, rfl, hl, Nat.le_refl _, Nat.zero_le _, hb, fun i hi => by omega⟩
  · refine ⟨_, _, rfl, hl, hnc, hcm, hb, fun i hi => ⟨g, 0, rfl, ?_⟩⟩
    have hi2 : i < l.length := by omega
    have e1 : cur.toList[i]? = some (.int .u8 (l.getD i 0)) := by
      have e2 : (cur.toList.take (n * 1))[i]? = some (.int .u8 (l.getD i 0)) := by
        rw [hx]; simp [hi2]
      rw [List.getElem?_take] at e2
      split at e2
      · exact e2
      · simp at e2
    have e3 : cur[i]? = some (.int .u8 (l.getD i 0)) := by rw [← Array.getElem?_toList]; exact e1
    simp only [World.cell?, hg]
    simpa using e3

/-- the slice of numbers that came in -/
theorem ints_cells {w : World} {a : Option Addr} {len cap : Nat} {zs : List Int}
    (h : (a = none ∧ len = 0 ∧ cap = 0 ∧ zs = []) ∨ ∃ x, a = some x ∧ len ≤ cap ∧ cap ≤ maxLen ∧ zs.length = cap ∧ (∀ i, i < zs.length → w.cell? (x.add i) = some (.int .i64 (zs.getD i 0))) ∧ ∀ n ∈ zs, (Lit.int .i64 n).wf = true) :
    len ≤ maxLen ∧ (zs.take len).length = len ∧ ((1 ≤ len) → ∃ b off, a = some ⟨b, off, none⟩ ∧ ∀ i, i < len → w.cell? ⟨b, off + i, none⟩ = some (.int .i64 ((zs.take len).getD i 0))) := by
  rcases h with ⟨rfl, rfl, rfl, rfl⟩ | ⟨x, rfl, hl, hm, hz, hcell, hwz⟩
  · exact ⟨Nat.zero_le _, rfl, fun h => by omega⟩
  · refine ⟨by omega, by rw [List.length_take]; omega, fun hp => ?_⟩
    obtain ⟨b, off, spot⟩ := x
    have hspot : spot = none := by simpa [Addr.add] using World.cell?_spot (hcell 0 (by omega))
    subst hspot
    refine ⟨b, off, rfl, fun i hi => ?_⟩
    have hc := hcell i (by omega)
    rw [Addr.add_lit] at hc
    rw [hc]
    simp [hi]

theorem cell_k {w wr : World} {p : Addr} {v : Value} (hb : Below w.heap.size w wr) (hc : w.cell? p = some v) : wr.cell? p = some v := by
  rw [hb.cell (block_lt_of_cell hc)]; exact hc

theorem news_put (w : World) (z : Int) : ∀ j u, ((U.putL z).map (Value.int .u8))[j]? = some u → (w.alloc (putObj z)).cell? ((⟨w.heap.size, 0, none⟩ : Addr).add j) = some u := by
  intro j u hj
  rw [Addr.add_lit]
  unfold putObj
  rw [World.cell?_alloc_at _ _ _ _ rfl]
  simpa using hj

end Go.Proofs.YtdaadeohamkoiaaGreatDoor
