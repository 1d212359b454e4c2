/- Contracts of package token: blanks, and all tokens. -/
import Derived.Test.YtdaadeohamkoiaaGreatDoorTkN
namespace Go.Proofs.YtdaadeohamkoiaaGreatDoor.T
open Go.RowKit
set_option linter.unusedVariables false
set_option linter.unusedSimpArgs false

def skipN : List Int → Nat
  | [] => 0
  | z :: t => if isBl z then skipN t + 1 else 0
theorem skip_len : ∀ r : List Int, skipN r ≤ r.length := by
  intro r
  induction r with
  | nil => simp [skipN]
  | cons z t ih => simp only [skipN]; split <;> simp <;> omega
theorem bl_byte : ∀ n : Fin 256, ([32, 9, 10, 13] : List UInt8).contains (UInt8.ofNat n.val) = isBl (n.val : Int) := by decide +kernel
theorem bl_byte' {z : Int} (h0 : 0 ≤ z) (h1 : z ≤ 255) : ([32, 9, 10, 13] : List UInt8).contains (UInt8.ofNat z.toNat) = isBl z := by
  have := bl_byte ⟨z.toNat, by omega⟩
  simp only [Int.toNat_of_nonneg h0] at this
  exact this
theorem trim_len : ∀ r : List Int, U.isBytes r → (Lib.trimLeftS (Lib.bytesOf r) [32, 9, 10, 13]).length = r.length - skipN r := by
  intro r
  induction r with
  | nil => intro _; rfl
  | cons z t ih =>
    intro hb
    have hz := U.isBytes_head hb
    have := ih (U.isBytes_tail hb)
    unfold Lib.trimLeftS Lib.bytesOf at *
    rw [List.map_cons, List.dropWhile_cons, bl_byte' hz.1 hz.2]
    simp only [skipN, List.length_cons]
    cases h : isBl z with
    | true =>
      simp only [if_true]
      rw [this]
      omega
    | false =>
      simp
theorem tail_run8 (a : Option Addr) (len cap k : Nat) (i : Int) (hi : i = (k : Int)) (hk : k ≤ len) : ∀ W, (Instr.slice 55 (.slice a len cap) (some (.int .i64 i)) none none).run Tryz.prog W = .ok (.slice (dropA a cap k) (len - k) (cap - k)) W := by
  intro W
  subst hi
  have hu : Tryz.prog.underlying 55 = some (.slice 5) := Tryz.underlying55
  unfold Instr.slice dropA
  simp [hu, run_underlying, Instr.sliceBounds, Instr.sliceBound, asIntOf, hk, Tryz.sizeOf5]
theorem trim_l (a : Option Addr) (len cap : Nat) (l : List Int) (w : World) (h : Bs w a len cap l) :
    Calls Tryz.prog 50 #[.slice a len cap, .string ⟨#[32, 9, 10, 13]⟩] w fun e w' => (∃ x c, e = .returned (.slice x (len - skipN l) c)) ∧ Below w.heap.size w w' := by
  have hm := h.hmax
  unfold maxLen at hm
  have := Any.bytes_TrimLeft_laid trimL_lays (by kernel_rfl) a len cap l ⟨#[32, 9, 10, 13]⟩ w h.hlen h.hcap (by omega) (Bs.bytesIn h) (fun x hx => by have := h.hbytes x hx; omega) (by decide) (fun j b hb => by have := List.mem_of_getElem? hb; simp at this; rcases this with rfl | rfl | rfl | rfl <;> decide)
  have hl := trim_len l h.hbytes
  have hs := skip_len l
  rw [h.hlen] at hl hs
  refine Calls.mono this fun e w' hh => ⟨?_, hh.2⟩
  rw [hh.1]
  show ∃ x c, Ending.returned (Lib.leftV a len cap (len - (Lib.trimLeftS (Lib.bytesOf l) [32, 9, 10, 13]).length)) = _
  rw [hl, show len - (len - skipN l) = skipN l by omega]
  unfold Lib.leftV Lib.fromV
  split
  · next c => exact ⟨none, 0, by rw [c]; simp⟩
  · exact ⟨_, _, rfl⟩
set_option maxRecDepth 20000 in
set_option maxHeartbeats 2000000 in
theorem blanks_l (a : Option Addr) (len cap : Nat) (l : List Int) (w : World) (h : Bs w a len cap l) (hl : len ≤ 1000000) (k : Nat) (hk : k ≤ len) :
    Calls Tryz.prog 25 #[.slice a len cap, .int .i64 k] w fun e w' => e = .returned (.int .i64 ((k + skipN (l.drop k) : Nat) : Int)) ∧ Below w.heap.size w w' := by
  have hlen := h.hlen
  have sl := tail_run8 a len cap k k rfl hk
  have C := hideR (trim_l _ _ _ _ w (Bs.dropA h k hk))
  have hs := skip_len (l.drop k)
  rw [List.length_drop] at hs
  clear h
  generalize skipN (l.drop k) = m at *
  have t1 := wrapI ((len : Int) - ((len - k - m : Nat) : Int)) (by omega)
  go_enter Tryz.func25, Tryz.ntmps25
  go_wp2_with fail
  refine (unhideR C).mono ?_
  rintro e w1 ⟨⟨x, c, rfl⟩, b1⟩
  clear C
  go_wp2_with fail
  go_ret
  exact ⟨by show Ending.returned (Value.int .i64 _) = _; congr 2; omega, b1⟩
end Go.Proofs.YtdaadeohamkoiaaGreatDoor.T

/- Contracts of package token: All. -/
namespace Go.Proofs.YtdaadeohamkoiaaGreatDoor.T
open Go.RowKit
set_option linter.unusedVariables false
set_option linter.unusedSimpArgs false

theorem all_skip : ∀ (r : List Int) (a c : Nat), U.isBytes r → allA a c r = allA (a + skipN r) c (r.drop (skipN r)) := by
  intro r
  induction r with
  | nil => intro a c _; rfl
  | cons z t ih =>
    intro a c hb
    simp only [skipN]
    cases h : isBl z with
    | false => simp
    | true =>
      simp only [if_true]
      rw [all_blank hb (by simp) (by simpa using h), List.drop_succ_cons, List.drop_zero, List.drop_succ_cons, ih (a + 1) c (U.isBytes_tail hb), show a + 1 + skipN t = a + (skipN t + 1) by omega]
theorem skip_stop : ∀ r : List Int, r.drop (skipN r) ≠ [] → isBl ((r.drop (skipN r)).getD 0 0) = false := by
  intro r
  induction r with
  | nil => intro h; exact absurd rfl h
  | cons z t ih =>
    intro h
    simp only [skipN] at *
    cases e : isBl z with
    | false => simp [e]
    | true =>
      rw [e] at h
      simp only [if_true, List.drop_succ_cons] at h ⊢
      exact ih h

/-! ### Tokens, one behind the other -/
def TkC (w : World) : List (Tk × Nat) → List Value → Prop
  | [], cs => cs = []
  | (t, p) :: ts, cs => ∃ c0 c1 c2 c3 cs', cs = c0 :: c1 :: c2 :: c3 :: cs' ∧ TokV w (.agg #[c0, c1, c2, c3]) t p ∧ TkC w ts cs'
theorem TkC.mono {w w' : World} (h : ∀ v t p, TokV w v t p → TokV w' v t p) : ∀ (ts : List (Tk × Nat)) (cs : List Value), TkC w ts cs → TkC w' ts cs := by
  intro ts
  induction ts with
  | nil => intro cs hc; exact hc
  | cons x ts ih =>
    obtain ⟨t, p⟩ := x
    intro cs hc
    obtain ⟨c0, c1, c2, c3, cs', e, hv, hr⟩ := hc
    exact ⟨c0, c1, c2, c3, cs', e, h _ _ _ hv, ih _ hr⟩
theorem TkC.later {w w' : World} {ts : List (Tk × Nat)} {cs : List Value} (h : TkC w ts cs) (b : Below w.heap.size w w') : TkC w' ts cs := TkC.mono (fun _ _ _ hv => TokV.later hv b) ts cs h
theorem TkC.snoc {w : World} {t : Tk} {p : Nat} {c0 c1 c2 c3 : Value} (hv : TokV w (.agg #[c0, c1, c2, c3]) t p) : ∀ (ts : List (Tk × Nat)) (cs : List Value), TkC w ts cs → TkC w (ts ++ [(t, p)]) (cs ++ [c0, c1, c2, c3]) := by
  intro ts
  induction ts with
  | nil =>
    intro cs hc
    have : cs = [] := hc
    subst this
    exact ⟨c0, c1, c2, c3, [], rfl, hv, rfl⟩
  | cons x ts ih =>
    obtain ⟨t', p'⟩ := x
    intro cs hc
    obtain ⟨d0, d1, d2, d3, cs', e, hv', hr⟩ := hc
    exact ⟨d0, d1, d2, d3, cs' ++ [c0, c1, c2, c3], by rw [e]; rfl, hv', ih _ hr⟩
theorem own_ne {W : World} {base : Nat} {e : TypeId} {size : Nat} {v : Value} {n : Nat} {xs : List Value} (h : W.ownsRow base e size v n xs) {k : Nat} {cs : Array Value} {t : TypeId} {fr : Nat × Nat} (hk : W.heap[k]? = some (.cells cs t fr)) (ht : t ≠ e) : some k ≠ v.ownBlock := by
  rcases h.2 with ⟨rfl, _⟩ | ⟨g, cap, cur, rfl, _, hg, _⟩
  · simp [Value.ownBlock]
  · intro e'
    simp only [Value.ownBlock, Option.some.injEq] at e'
    subst e'
    rw [hk] at hg
    injection hg with hg
    injection hg with _ hg
    exact ht hg
theorem TokV.grown {W W' : World} {base : Nat} {v : Value} {n : Nat} {xs : List Value} (ho : W.ownsRow base 24 4 v n xs) (hg : W.grownBy W' v.ownBlock) (u : Value) (t : Tk) (p : Int) (h : TokV W u t p) : TokV W' u t p := by
  obtain ⟨a, c, e, hr, ht⟩ := h
  have key : ∀ b off, a = some ⟨b, off, none⟩ → W'.heap[b]? = W.heap[b]? := by
    intro b off e
    obtain ⟨cs, fr, hk⟩ := ht b off e
    exact hg.block b (Array.getElem?_eq_some_iff.1 hk).1 (own_ne ho hk (by decide))
  refine ⟨a, c, e, ⟨hr.hlen, hr.hcap, hr.hmax, hr.hfit, fun i hi => ?_⟩, fun b off e => ?_⟩
  · obtain ⟨b, off, ha, hc, hd⟩ := hr.hcell i hi
    exact ⟨b, off, ha, by rw [World.cell?_of_block (key b off ha)]; exact hc, by rw [World.cell?_of_block (key b off ha)]; exact hd⟩
  · obtain ⟨cs, fr, hk⟩ := ht b off e
    exact ⟨cs, fr, (key b off e).trans hk⟩
theorem infoTok3 : (Tryz.prog.info? 24).map (fun i => (i.zero, i.size, i.bytes)) = some (some (.agg #[.int .i64 0, .string ⟨#[]⟩, .slice none 0 0, .int .i64 0]), 4, 56) := by kernel_rfl
theorem new_tok (w : World) (n : Nat) (x0 x1 x2 x3 : Value) (hn : n = w.heap.size) : ∀ (j : Nat) (u : Value), [x0, x1, x2, x3][j]? = some u → (w.alloc (.cells #[x0, x1, x2, x3] 24)).cell? ((⟨n, 0, none⟩ : Addr).add j) = some u := by
  subst hn
  exact World.news_of_block (cs := #[x0, x1, x2, x3]) (t := 24) (fr := (0, 0)) (heap_alloc_new w _)
/-- a slice of tokens that the call has made -/
def Tks (w : World) (base : Nat) (v : Value) (ts : List (Tk × Nat)) : Prop := ∃ cs, w.ownsRow base 24 4 v ts.length cs ∧ TkC w ts cs
/-- what All answers -/
def AllR (w : World) (base : Nat) (l : List Int) (e : Ending) : Prop :=
  (∃ a er, allL l = .inl (a, er) ∧ e = .returned (.tuple #[.slice none 0 0, .int .i64 (a : Nat), .int .i64 er])) ∨
  ∃ ts v, allL l = .inr ts ∧ e = .returned (.tuple #[v, .int .i64 (l.length : Nat), .int .i64 0]) ∧ Tks w base v ts
theorem ret_all {a : Nat} {er x : Int} (h : (a : Int) = x) : Ending.returned (.tuple #[.slice none 0 0, .int .i64 x, .int .i64 er]) = .returned (.tuple #[.slice none 0 0, .int .i64 (a : Int), .int .i64 er]) := by rw [h]
set_option maxRecDepth 20000 in
set_option maxHeartbeats 8000000 in
theorem all_l (s : ByteArray) (l : List Int) (h : St s l) (hl : l.length ≤ 1000000) (w : World) :
    Calls Tryz.prog 8 #[.string s] w fun e w' => AllR w' w.heap.size l e ∧ Below w.heap.size w w' := by
  have hsz := h.size
  have hbb := h.2
  have kc := fun W => run_bytes_of_string (P := Tryz.prog) W 9 55 5 s Tryz.underlying9 Tryz.underlying55 Tryz.underlying5
  by_cases hbig : 3000 < l.length
  · have e : allL l = .inl (0, 7) := by unfold allL; rw [if_pos hbig]
    have t1 : (3000 : Int) < (s.size : Int) := by omega
    have EQ := hideR e
    clear h kc hsz e
    go_enter Tryz.func8, Tryz.ntmps8
    go_wp2_with fail
    (try simp only [Exit.inBlock, Exit.then])
    refine bodyPost_ret (v := .tuple #[.slice none 0 0, .int .i64 (0 : Nat), .int .i64 7]) ?_ rfl ⟨.inl ⟨0, 7, unhideR EQ, rfl⟩, Below.refl _ _⟩
    simp [results, Tryz.results8]
  · have t1 : (s.size : Int) ≤ 3000 := by omega
    have BC := hideR (fun W fr => bs_conv' W h (by unfold maxLen; omega) fr)
    have CBl := hideR (fun W x c (hB : Bs W x s.size c l) k (hk : k ≤ s.size) => blanks_l x s.size c l W hB (by omega) k hk)
    have CT := hideR (fun W x c (hB : Bs W x s.size c l) k (hk : k < s.size) b (hm : Mp W b (fS 10)) => token_l _ _ _ _ W (Bs.dropA hB k (by omega)) (by omega) (by omega) b hm)
    have HL := hideR hsz
    have HBB := hideR hbb
    have AL : Hid (allL l = allA 0 600 l) := allL_is (by omega)
    have ssl : s.size ≤ 3000 := by omega
    have t1b : decide ((3000 : Int) < (s.size : Int)) = false := decide_eq_false (by omega)
    obtain ⟨ti, hi0, hz0, hz1, hz2⟩ := info_parts infoTok3
    clear h hbig hsz hbb hl
    go_enter Tryz.func8, Tryz.ntmps8
    go_wp2_with fail
    have B0 := new_drew' (w := w) (.cells (bytesRow s (grownCap w s.size 0 5)) 5 ((bytesRow s (grownCap w s.size 0 5)).size, (bytesRow s (grownCap w s.size 0 5)).size + 1))
    have HB0 := unhideR BC w ((bytesRow s (grownCap w s.size 0 5)).size, (bytesRow s (grownCap w s.size 0 5)).size + 1)
    clear BC kc
    generalize hW0 : (w.alloc (.cells (bytesRow s (grownCap w s.size 0 5)) 5 ((bytesRow s (grownCap w s.size 0 5)).size, (bytesRow s (grownCap w s.size 0 5)).size + 1))).drew = W0 at *
    clear hW0
    generalize grownCap w s.size 0 5 = gc at *
    refine (readers_l _).mono ?_
    rintro e W1 ⟨mb, rfl, hm, b1⟩
    have HB1 := hideR (Bs.later HB0 b1 (Nat.le_refl _))
    have HM1 := hideR hm
    have HW1 := hideR (bthen B0 b1)
    clear HB0 hm b1 B0
    go_wp2_with fail
    have CB0 : Hid (Calls Tryz.prog 25 #[.slice (some ⟨w.heap.size, 0, none⟩) s.size gc, .int .i64 0] W1 fun e w' => e = .returned (.int .i64 ((skipN l : Nat) : Int)) ∧ Below W1.heap.size W1 w') := by
      have := unhideR CBl W1 _ gc (unhideR HB1) 0 (Nat.zero_le _)
      rw [List.drop_zero, Nat.zero_add] at this
      exact this
    refine (unhideR CB0).mono ?_
    rintro e W2 ⟨rfl, b2⟩
    have HB2 := hideR (Bs.later (unhideR HB1) b2 (Nat.le_refl _))
    have HM2 := hideR (Mp.later (unhideR HM1) b2)
    have HW2 := hideR (bthen (unhideR HW1) b2)
    have hs0 : skipN l ≤ s.size := by rw [unhideR HL]; exact skip_len l
    have A0 : Hid (allL l = joinS [] (allA (skipN l) 600 (l.drop (skipN l)))) := by
      show _ = _
      rw [join_nil, unhideR AL, all_skip l 0 600 (unhideR HBB), Nat.zero_add]
    have S0 : Hid (skipN l < s.size → isBl (l.getD (skipN l) 0) = false) := by
      intro hh
      have := skip_stop l (drop_ne (by rw [← unhideR HL]; exact hh))
      rw [drop_getD, Nat.add_zero] at this
      exact this
    clear CB0 HB1 HM1 HW1 b2 AL
    generalize skipN l = k0 at *
    go_wp2_with fail
    go_loopw [7, 8] (fun v j wr => ∃ (k : Nat) (acc : List (Tk × Nat)) (cs : List Value), k ≤ s.size ∧ acc.length ≤ 600 ∧ j = .int .i64 (k : Int) ∧ Hid (allL l = joinS acc (allA k (600 - acc.length) (l.drop k))) ∧ Hid (k < s.size → isBl (l.getD k 0) = false) ∧ Hid (TkC wr acc cs) ∧ wr.ownsRow W2.heap.size 24 4 v acc.length cs ∧ Below W2.heap.size W2 wr) (fun _ j _ => s.size - (intOf j).toNat)
    case atStart => exact ⟨k0, [], [], hs0, by simp, rfl, A0, S0, rfl, World.ownsRow_nil _ _ _ _, Below.refl _ _⟩
    case round =>
      obtain ⟨k, acc, cs, hk, hacc, rfl, hA, hS, hC, hown, hb⟩ := hrel
      have HBr := hideR (Bs.later (unhideR HB2) hb (Nat.le_refl _))
      have HMr := hideR (Mp.later (unhideR HM2) hb)
      have HO := hideR hown
      have hws := hb.size
      have HBW : Hid (Below w.heap.size w wr) := bthen (unhideR HW2) hb
      clear A0 S0 HM2 hs0
      by_cases hlt : k < s.size
      · have hne : l.drop k ≠ [] := drop_ne (by rw [← unhideR HL]; exact hlt)
        have hbl : isBl ((l.drop k).getD 0 0) = false := by rw [drop_getD, Nat.add_zero]; exact unhideR hS hlt
        have sl := tail_run8 (some ⟨w.heap.size, 0, none⟩) s.size gc k k rfl (by omega)
        have C1 := hideR (unhideR CT wr _ gc (unhideR HBr) k hlt mb (unhideR HMr))
        have hbd := U.isBytes_drop (unhideR HBB) k
        cases et : tokL (l.drop k) with
        | none =>
          have EQ : Hid (allL l = .inl (k, 2)) := by
            show _ = _
            rw [hA.out, all_bad hne hbl et]
            rfl
          rw [et] at C1
          clear et hA hS CT CBl HL HBB hne hbl hbd HMr HBr hC hown HO
          go_wp2_with fail
          refine (unhideR C1).mono ?_
          rintro e w1 ⟨v, n, rfl, to, b1⟩
          have tn : v = zeroTok ∧ n = 0 := by
            rcases to with ⟨_, h2, h3⟩ | ⟨t, h2, _⟩
            · exact ⟨h2, h3⟩
            · cases h2
          obtain ⟨rfl, rfl⟩ := tn
          unfold zeroTok
          clear C1 to
          go_wp2_with fail
          (try simp only [Exit.inBlock, Exit.then])
          refine bodyPost_ret (v := .tuple #[.slice none 0 0, .int .i64 (k : Int), .int .i64 2]) ?_ rfl ⟨.inl ⟨k, 2, unhideR EQ, rfl⟩, ?_⟩
          · simp [results, Tryz.results8]
          · exact bthen (bthen (unhideR HBW) b1) (Below.new1 _)
        | some tp =>
          obtain ⟨t, n⟩ := tp
          have gd := (tok_ok hbd et).2
          rw [List.length_drop, ← unhideR HL] at gd
          rw [et] at C1
          have t0 : ((n : Int) == 0) = false := beq_eq_false_iff_ne.2 (by omega)
          by_cases c6 : acc.length = 600
          · have EQ : Hid (allL l = .inl (k, 7)) := by
              show _ = _
              rw [hA.out, c6, all_many hne hbl et]
              rfl
            obtain ⟨p7, c7, e7⟩ := own_form (unhideR HO)
            have t6 : ((acc.length : Int) == 600) = true := by rw [c6]; rfl
            clear et hA hS CT CBl HL HBB hne hbl hbd HMr HBr hC hown HO c6
            subst e7
            go_wp2_with fail
            refine (unhideR C1).mono ?_
            rintro e w1 ⟨v, m, rfl, to, b1⟩
            obtain ⟨x0, x1, x2, x3, x4, x5, rfl⟩ := to.form
            have tn : m = n := by
              rcases to with ⟨h2, _⟩ | ⟨t', h2, _⟩
              · cases h2
              · injection h2 with h2; injection h2 with _ h2; exact h2.symm
            subst tn
            clear C1 to
            go_wp2_with fail
            (try simp only [Exit.inBlock, Exit.then])
            refine bodyPost_ret (v := .tuple #[.slice none 0 0, .int .i64 (k : Int), .int .i64 7]) ?_ rfl ⟨.inl ⟨k, 7, unhideR EQ, rfl⟩, ?_⟩
            · simp [results, Tryz.results8]
            · exact bthen (bthen (unhideR HBW) b1) (Below.new1 _)
          · have t6 : ((acc.length : Int) == 600) = false := beq_eq_false_iff_ne.2 (by omega)
            have hcap := (unhideR HBr).hcap
            have hs2 := skip_len (l.drop (k + n))
            rw [List.length_drop, ← unhideR HL] at hs2
            have AQ : Hid (allL l = joinS (acc ++ [(t, k)]) (allA (k + n + skipN (l.drop (k + n))) (600 - (acc ++ [(t, k)]).length) (l.drop (k + n + skipN (l.drop (k + n)))))) := by
              show _ = _
              rw [hA.out, show 600 - acc.length = (599 - acc.length) + 1 by omega, all_tok hbd hne hbl et, List.drop_drop, all_skip (l.drop (k + n)) (k + n) _ (U.isBytes_drop (unhideR HBB) (k + n)), List.drop_drop, List.length_append, List.length_singleton, show 600 - (acc.length + 1) = 599 - acc.length by omega]
              cases allA (k + n + skipN (l.drop (k + n))) (599 - acc.length) (l.drop (k + n + skipN (l.drop (k + n)))) with
              | inl e => rfl
              | inr e => simp [joinS, consS]
            have SQ : Hid (k + n + skipN (l.drop (k + n)) < s.size → isBl (l.getD (k + n + skipN (l.drop (k + n))) 0) = false) := by
              intro hh
              have := skip_stop (l.drop (k + n)) (by rw [List.drop_drop]; exact drop_ne (by rw [← unhideR HL]; exact hh))
              rw [List.drop_drop, drop_getD, Nat.add_zero] at this
              exact this
            have t2 := wrapI ((k : Int) + n) (by omega)
            obtain ⟨p7, c7, e7⟩ := own_form (unhideR HO)
            clear et hA hS CT HBB hne hbl hbd HMr hown
            subst e7
            go_wp2_with fail
            refine (unhideR C1).mono ?_
            rintro e w1 ⟨v, m, rfl, to, b1⟩
            have tn : m = n ∧ TokV w1 v t 0 := by
              rcases to with ⟨h2, _⟩ | ⟨t', h2, h3⟩
              · cases h2
              · injection h2 with h2; injection h2 with h2a h2b; subst h2a; exact ⟨h2b.symm, h3⟩
            obtain ⟨rfl, pa, pc, rfl, hr, hty⟩ := tn
            have HV : ∀ W, Below w1.heap.size w1 W → TokV W (.agg #[.int .i64 t.1, .string (strOfNums t.2.1), .slice pa t.2.2.length pc, .int .i64 (k : Int)]) t (k : Int) := fun W bw => ⟨pa, pc, rfl, hr.later bw (Nat.le_refl _), hty.later bw⟩
            have HVH := hideR HV
            have ho1 := ownL b1 (unhideR HO)
            have hC1 := hideR (TkC.later (unhideR hC) b1)
            have hb1 := hb.trans (b1.mono hws)
            have hs1 := hb1.size
            have HB1 := hideR (Bs.later (unhideR HBr) b1 (Nat.le_refl _))
            clear C1 to hr hty HV HO hC HBr
            generalize strOfNums t.2.1 = S at *
            generalize t.1 = K at *
            generalize t.2.2.length = rl at *
            go_wp2_with (at_builtin; refine wpList_append_lies _ rfl _ _ 26 rfl W2.heap.size 24 ti _ 4 56 Tryz.underlying26 hi0 hz0 hz1 hz2 rfl (by omega) _ _ _ rfl ((ho1.alloc _).alloc _) ⟨w1.heap.size + 1, 0, none⟩ 1 1 [.int .i64 K, .string S, .slice pa rl pc, .int .i64 (k : Int)] rfl rfl (new_tok _ _ _ _ _ _ (by simp)) (by simp [Value.oneCell']) (by omega) (by unfold maxLen; omega) (by omega) (by simp; omega) (w1.heap.size + 2) (by simp) ?_; intro gg cap1 w2 hown1 hgrow hat hlt1)
            have hb2 : Below W2.heap.size W2 w2 := hb1.trans (below_app2 ho1 hs1 hgrow)
            have TV := TokV.grown ((ho1.alloc _).alloc _) hgrow
            have b12 : Below w1.heap.size w1 ((w1.alloc (.cells #[.int .i64 K, .string S, .slice pa rl pc, .int .i64 (k : Int)] 24)).alloc (.cells #[.int .i64 K, .string S, .slice pa rl pc, .int .i64 (k : Int)] 24)) := (Below.new1 _).alloc (by simp) _
            have HC2 := hideR (TkC.snoc (TV _ _ _ (unhideR HVH _ b12)) acc cs (TkC.mono TV acc cs (TkC.later (unhideR hC1) b12)))
            have C2 := unhideR CBl w2 _ gc (Bs.later (unhideR HB2) hb2 (Nat.le_refl _)) (k + m) (by omega)
            rw [show ((k + m : Nat) : Int) = (k : Int) + (m : Int) by omega] at C2
            have C2H := hideR C2
            have HO2 := hideR hown1
            clear C2 TV b12 HVH hC1 hown1 hgrow hat hlt1 ho1 CBl HB1 HB2
            generalize skipN (l.drop (k + m)) = sk at *
            refine (unhideR C2H).mono ?_
            rintro e w3 ⟨rfl, b3⟩
            have HO3 := hideR (ownL b3 (unhideR HO2))
            have HC3 := hideR (TkC.later (unhideR HC2) b3)
            have hb3 := hb2.trans (b3.mono hb2.size)
            clear C2H HO2 HC2
            go_wp2_with fail
            go_roundw
            case rel => exact ⟨k + m + sk, acc ++ [(t, k)], _, by omega, by simp; omega, rfl, AQ, SQ, HC3, by rw [List.length_append]; exact unhideR HO3, hb3⟩
            case measure => simp [intOf]; omega
      · obtain rfl : k = s.size := by omega
        have EQ : Hid (allL l = .inr acc) := by
          show _ = _
          rw [hA.out, List.drop_of_length_le (by rw [← unhideR HL]; omega), all_nil]
          simp [joinS]
        have t9 : ¬ ((s.size : Int) < (s.size : Int)) := by omega
        clear hA hS CT CBl HBB HMr HBr hown
        go_wp2_with fail
        (try simp only [Exit.inBlock, Exit.then])
        refine bodyPost_ret (v := .tuple #[u7, .int .i64 (l.length : Nat), .int .i64 0]) ?_ rfl ⟨.inr ⟨acc, u7, unhideR EQ, rfl, cs, own_mono (unhideR HO) (by have := (unhideR HW2).size; omega), unhideR hC⟩, unhideR HBW⟩
        rw [← unhideR HL]
        simp [results, Tryz.results8]
end Go.Proofs.YtdaadeohamkoiaaGreatDoor.T
