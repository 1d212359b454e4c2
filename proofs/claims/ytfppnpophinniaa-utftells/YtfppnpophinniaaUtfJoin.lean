/- The walk of the statement UtfJoin. -/
import Derived.Test.YtfppnpophinniaaUtfAwake
namespace Go.Proofs.Ytfppnpophinniaa
open Go.RowKit
set_option linter.unusedVariables false

/-- all that is put, one behind the other -/
def joinL : List Int → List Int
  | [] => []
  | z :: zs => (if U.mayB z = true then U.putL z else []) ++ joinL zs
def joinN : List Int → Nat
  | [] => 0
  | z :: zs => (if U.mayB z = true then 1 else 0) + joinN zs
theorem joinL_bytes : ∀ zs : List Int, U.isBytes (joinL zs)
  | [] => fun z hz => by simp [joinL] at hz
  | z :: zs => by
    intro y hy
    simp only [joinL, List.mem_append] at hy
    rcases hy with hy | hy
    · split at hy
      · rename_i h; exact U.putL_bytes h y hy
      · simp at hy
    · exact joinL_bytes zs y hy
theorem joinL_units : ∀ zs : List Int, U.units (joinL zs) = joinN zs
  | [] => rfl
  | z :: zs => by
    simp only [joinL, joinN]
    split
    · rename_i h; rw [U.units_put h (joinL_bytes zs), joinL_units zs]
    · simp [joinL_units zs]
theorem joinL_snoc : ∀ (zs : List Int) (z : Int), joinL (zs ++ [z]) = joinL zs ++ (if U.mayB z = true then U.putL z else [])
  | [], z => by simp [joinL]
  | y :: zs, z => by simp only [List.cons_append, joinL, joinL_snoc zs z, List.append_assoc]
theorem joinN_snoc : ∀ (zs : List Int) (z : Int), joinN (zs ++ [z]) = joinN zs + (if U.mayB z = true then 1 else 0)
  | [], z => by simp [joinN]
  | y :: zs, z => by simp only [List.cons_append, joinN, joinN_snoc zs z, Nat.add_assoc]
theorem joinL_len : ∀ zs : List Int, (joinL zs).length ≤ 4 * zs.length
  | [] => by simp [joinL]
  | z :: zs => by
    simp only [joinL, List.length_append, List.length_cons]
    have := joinL_len zs
    split
    · have := (U.putL_len z).2; omega
    · simp; omega
theorem joinN_len : ∀ zs : List Int, joinN zs ≤ zs.length
  | [] => by simp [joinN]
  | z :: zs => by
    simp only [joinN, List.length_cons]
    have := joinN_len zs
    split <;> omega

theorem info_byte : (Try.prog.info? 5).map (fun i => (i.zero, i.size, i.bytes)) = some (some (.int .u8 0), 1, 1) := by kernel_rfl

/-- 'append' of nothing onto a row of the call's own -/
theorem wpList_append_none {P : Program} (w : World) {ops : Array Oper} {rest : List Oper} {o : Oper} {a : Act} {Q : Exit → Act → World → Prop}
    (hg : o.guard = none) (s x : Operand) (t : TypeId) (hop : o.op = Op.call { callee := Callee.builtin Builtin.append, args := #[s, x], argTypes := #[t, t] })
    (base : Nat) (e : TypeId) (i : TypeInfo) (size : Nat) (h1 : P.underlying t = some (.slice e)) (h2 : P.info? e = some i)
    (v : Value) (n : Nat) (xs : List Value) (hs : a.eval s = v) (hown : w.ownsRow base e size v n xs) (hx : a.eval x = .slice none 0 0)
    (hK : wpList P ops Q rest (a.put o.dst v) w) : wpList P ops Q (o :: rest) a w := by
  refine wpList_plain hg fun K hK' => ?_
  have hrun := run_append_owned_none (P := P) w base t o.type e i size h1 h2 v n xs hown
  unfold Oper.wp
  simp [execOp, hop, resolve, invoke, builtin, hs, hx, hrun, Result.andThen]
  exact hK' _ _ hK

/-- a row of bytes of the call's own, as bytes -/
theorem Bs.ofOwn {w : World} {base : Nat} {v : Value} {n : Nat} {l : List Int} (hb : U.isBytes l) (h : w.ownsRow base 5 1 v n (l.map (Value.int .u8))) : ∃ a cap, v = .slice a n cap ∧ Bs w a n cap l := by
  obtain ⟨h1, h2⟩ := h
  have hl : l.length = n := by simpa using h1
  rcases h2 with ⟨rfl, rfl⟩ | ⟨g, cap, cur, rfl, _, hg, hnc, hcm, hcs, hx⟩
  · exact ⟨none, 0, rfl, hl, Nat.le_refl _, Nat.zero_le _, hb, fun i hi => by omega⟩
  · refine ⟨_, _, rfl, hl, hnc, hcm, hb, fun i hi => ⟨g, 0, rfl, ?_⟩⟩
    have hi2 : i < l.length := by omega
    have e1 : cur.toList[i]? = some (.int .u8 (l.getD i 0)) := by
      have e2 : (cur.toList.take (n * 1))[i]? = some (.int .u8 (l.getD i 0)) := by
        rw [hx]; simp [hi2]
      rw [List.getElem?_take] at e2
      split at e2
      · exact e2
      · simp at e2
    have e3 : cur[i]? = some (.int .u8 (l.getD i 0)) := by rw [← Array.getElem?_toList]; exact e1
    simp only [World.cell?, hg]
    simpa using e3

/-- the slice of numbers that came in -/
theorem ints_cells {w : World} {a : Option Addr} {len cap : Nat} {zs : List Int}
    (h : (a = none ∧ len = 0 ∧ cap = 0 ∧ zs = []) ∨ ∃ x, a = some x ∧ len ≤ cap ∧ cap ≤ maxLen ∧ zs.length = cap ∧ (∀ i, i < zs.length → w.cell? (x.add i) = some (.int .i64 (zs.getD i 0))) ∧ ∀ n ∈ zs, (Lit.int .i64 n).wf = true) :
    len ≤ maxLen ∧ (zs.take len).length = len ∧ ((1 ≤ len) → ∃ b off, a = some ⟨b, off, none⟩ ∧ ∀ i, i < len → w.cell? ⟨b, off + i, none⟩ = some (.int .i64 ((zs.take len).getD i 0))) := by
  rcases h with ⟨rfl, rfl, rfl, rfl⟩ | ⟨x, rfl, hl, hm, hz, hcell, hwz⟩
  · exact ⟨Nat.zero_le _, rfl, fun h => by omega⟩
  · refine ⟨by omega, by rw [List.length_take]; omega, fun hp => ?_⟩
    obtain ⟨b, off, spot⟩ := x
    have hspot : spot = none := by simpa [Addr.add] using World.cell?_spot (hcell 0 (by omega))
    subst hspot
    refine ⟨b, off, rfl, fun i hi => ?_⟩
    have hc := hcell i (by omega)
    rw [Addr.add_lit] at hc
    rw [hc]
    simp [hi]

theorem cell_k {w wr : World} {p : Addr} {v : Value} (hb : Below w.heap.size w wr) (hc : w.cell? p = some v) : wr.cell? p = some v := by
  rw [hb.cell (block_lt_of_cell hc)]; exact hc

theorem news_put (w : World) (z : Int) : ∀ j u, ((U.putL z).map (Value.int .u8))[j]? = some u → (w.alloc (putObj z)).cell? ((⟨w.heap.size, 0, none⟩ : Addr).add j) = some u := by
  intro j u hj
  rw [Addr.add_lit]
  unfold putObj
  rw [World.cell?_alloc_at _ _ _ _ rfl]
  simpa using hj

set_option maxHeartbeats 1000000 in
theorem utfJoin_walk (a : Option Addr) (len cap : Nat) (l : List Int) (w : World) (hl : l.length = len) (hm : len ≤ maxLen)
    (hc : 1 ≤ len → ∃ b off, a = some ⟨b, off, none⟩ ∧ ∀ i, i < len → w.cell? ⟨b, off + i, none⟩ = some (.int .i64 (l.getD i 0))) :
    Calls Try.prog 9 #[.slice a len cap] w fun e w' => e = .returned (.bool true) ∧ Below w.heap.size w w' := by
  have AW := hideC awake_any
  unfold maxLen at hm
  by_cases h1 : 60 < len
  · clear hc hl
    go_enter Try.func9, Try.ntmps9
    go_wp2_with fail
    refine (unhideC AW _).mono ?_
    rintro e w1 ⟨rfl, hb1⟩
    go_wp2_with fail
    go_ret
    exact ⟨rfl, hb1⟩
  obtain ⟨ti, hi, hz0, hz1, hz2⟩ := info_parts info_byte
  have PY := hideC put_yes
  have PN := hideC put_no
  have UA := hideC (fun a len cap l w h => units_any a len cap l w h)
  have HC := hideC hc
  have HL := hideC hl
  clear hc hl
  go_enter Try.func9, Try.ntmps9
  go_wp2_with fail
  refine (unhideC AW _).mono ?_
  rintro e w1 ⟨rfl, hb1⟩
  go_wp2_with fail
  go_loopw [4, 5, 6] (fun v t i wr => ∃ k : Nat, k ≤ len ∧ i = .int .i64 k ∧ t = .int .i64 (joinN (l.take k)) ∧ wr.ownsRow w.heap.size 5 1 v (joinL (l.take k)).length ((joinL (l.take k)).map (Value.int .u8)) ∧ Below w.heap.size w wr) (fun _ _ i _ => len - (intOf i).toNat)
  case atStart => exact ⟨0, Nat.zero_le _, rfl, rfl, World.ownsRow_nil _ _ _ _, hb1⟩
  case round =>
    obtain ⟨k, hk, rfl, rfl, hown, hb⟩ := hrel
    clear hb1
    by_cases hlt : k < len
    · obtain ⟨b, off, rfl, hcell⟩ := unhideC HC (by omega)
      have hl := unhideC HL
      have ck := cell_k hb (hcell k hlt)
      have tk : l.take (k + 1) = l.take k ++ [l.getD k 0] := by
        rw [List.take_succ_eq_append_getElem (by omega)]; simp [show k < l.length by omega]
      have jl := joinL_len (l.take k)
      have jn := joinN_len (l.take k)
      have hlk : (l.take k).length = k := by rw [List.length_take]; omega
      rw [hlk] at jl jn
      have JL : Hid (joinL (l.take (k + 1)) = joinL (l.take k) ++ (if U.mayB (l.getD k 0) = true then U.putL (l.getD k 0) else [])) := by rw [tk]; exact joinL_snoc _ _
      have JN : Hid (joinN (l.take (k + 1)) = joinN (l.take k) + (if U.mayB (l.getD k 0) = true then 1 else 0)) := by rw [tk]; exact joinN_snoc _ _
      clear tk hcell hl hlk
      have hbz := hb.size
      have OW := hideC hown
      clear hown
      generalize l.getD k 0 = z at *
      generalize joinL (l.take k) = xs at *
      generalize joinN (l.take k) = nn at *
      cases hz : U.mayB z
      · have P1 := hideC (unhideC PN z wr hz)
        have J1 : Hid (joinL (l.take (k + 1)) = xs) := hideC (by have := JL.out; rw [hz] at this; simpa using this)
        have J2 : Hid (joinN (l.take (k + 1)) = nn) := hideC (by have := JN.out; rw [hz] at this; simpa using this)
        clear JL JN hz
        go_wp2_with fail
        refine (unhideC P1).mono ?_
        rintro e w' ⟨rfl, rfl⟩
        go_wp2_with (at_builtin; refine wpList_append_none _ rfl _ _ _ rfl w.heap.size 5 ti 1 Try.underlying22 hi _ _ _ rfl (unhideC OW) rfl ?_)
        go_roundw
        case rel => exact ⟨k + 1, by omega, by go_num, by rw [J2.out], by rw [J1.out]; exact unhideC OW, hb⟩
        case measure => simp [intOf]; omega
      · have P1 := hideC (unhideC PY z wr hz)
        have J1 : Hid (joinL (l.take (k + 1)) = xs ++ U.putL z) := hideC (by have := JL.out; rw [hz] at this; simpa using this)
        have J2 : Hid (joinN (l.take (k + 1)) = nn + 1) := hideC (by have := JN.out; rw [hz] at this; simpa using this)
        have pl := U.putL_len z
        clear JL JN hz
        unfold putVal at P1
        go_wp2_with fail
        refine (unhideC P1).mono ?_
        rintro e w' ⟨rfl, rfl⟩
        go_wp2_with (at_builtin; refine wpList_append_own _ rfl _ _ _ rfl w.heap.size 5 ti (.int .u8 0) 1 1 Try.underlying22 hi hz0 hz1 hz2 rfl (by omega) _ xs.length (xs.map (Value.int .u8)) rfl ((unhideC OW).alloc _) ⟨wr.heap.size, 0, none⟩ (U.putL z).length (U.putL z).length ((U.putL z).map (Value.int .u8)) rfl (by simp) (news_put wr z) (ints_oneCell _ _) (by unfold maxLen; omega) (by omega) (by simp; omega) ?_)
        intro v' w' hown' hgrow hnil
        go_wp2_with fail
        go_roundw
        case rel =>
          refine ⟨k + 1, by omega, by go_num, by rw [J2.out]; go_num, by rw [J1.out, List.map_append, List.length_append]; exact hown', ?_⟩
          refine (hb.alloc hbz _).grown hgrow (by simp; omega) ?_
          intro q hq
          exact ((unhideC OW).lt q hq).1
        case measure => simp [intOf]; omega
    · have hk2 : k = len := by omega
      have hl := unhideC HL
      rw [List.take_of_length_le (by omega)] at hown ⊢
      obtain ⟨a', cap', rfl, hbs⟩ := Bs.ofOwn (joinL_bytes l) hown
      have U1 := hideC (unhideC UA _ _ _ _ _ hbs)
      rw [joinL_units] at U1
      clear hown hbs
      subst hk2
      clear HL hl
      go_wp2_with fail
      refine (unhideC U1).mono ?_
      rintro e w2 ⟨rfl, hb2⟩
      go_wp2_with fail
      go_ret
      exact ⟨rfl, hb.trans (hb2.mono hb.size)⟩
end Go.Proofs.Ytfppnpophinniaa
