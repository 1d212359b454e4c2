/- Parts of the proof of FlatMay that stand ahead of it (30: FlMayG, FlSame, FlAny, FlText8, FlAwake, FlLMay). -/
import Derived.Test.YtamefbpdnblbdaaGreatDoorFlatMayM26
import Derived.Test.YtamefbpdnblbdaaGreatDoorFlatMayM29
import Derived.Deep.QuietTactic
import Derived.BigQuiet
import Derived.Test.YtamefbpdnblbdaaGreatDoorFlatMayM24
namespace Go.Proofs.YtamefbpdnblbdaaGreatDoor.F
open Go.RowKit Go.Proofs.YtamefbpdnblbdaaGreatDoor.T Go.Proofs.YtamefbpdnblbdaaGreatDoor.R
set_option linter.unusedVariables false
set_option linter.unusedSimpArgs false

theorem PrC.at2 {D : Nat → Prop} {w : World} : ∀ (l : List PRD) (cs : List Value) (j : Nat), PrC D w l cs → j < l.length → ∃ c0 c2 p, cs[3 * j]? = some c0 ∧ cs[3 * j + 1]? = some (.int .i64 p.2.1) ∧ cs[3 * j + 2]? = some c2 ∧ AltV D w c0 p.1 ∧ NotV w c2 p.2.2 ∧ l.drop j = p :: l.drop (j + 1) ∧ p ∈ l := by
  intro l
  induction l with
  | nil => intro cs j _ hj; simp at hj
  | cons x l ih =>
    intro cs j h hj
    obtain ⟨c0, c2, cs', rfl, ha, hn, ht⟩ := h
    cases j with
    | zero => exact ⟨c0, c2, x, rfl, rfl, rfl, ha, hn, rfl, List.mem_cons_self ..⟩
    | succ j =>
      obtain ⟨d0, d2, p, h0, h1, h2, ha', hn', hd, hm⟩ := ih cs' j ht (by simp at hj; omega)
      refine ⟨d0, d2, p, ?_, ?_, ?_, ha', hn', by simpa using hd, List.mem_cons_of_mem _ hm⟩
      · rw [show 3 * (j + 1) = 3 * j + 1 + 1 + 1 by omega]; simpa using h0
      · rw [show 3 * (j + 1) + 1 = 3 * j + 1 + 1 + 1 + 1 by omega]; simpa using h1
      · rw [show 3 * (j + 1) + 2 = 3 * j + 2 + 1 + 1 + 1 by omega]; simpa using h2
theorem prods_at {D : Nat → Prop} {w : World} {a : Option Addr} {len cap : Nat} {cs : List Value} {l : List PRD} (hr : RowT 39 D w a len cap cs) (hp : PrC D w l cs) (j : Nat) (hj : j < l.length) : ∃ g off x0 n0 k0 x2 n2 k2 p, a = some ⟨g, off, none⟩ ∧ g < w.heap.size ∧ w.cell? ⟨g, off + 3 * j, none⟩ = some (.slice x0 n0 k0) ∧ w.cell? ⟨g, off + 3 * j + 1, none⟩ = some (.int .i64 p.2.1) ∧ w.cell? ⟨g, off + 3 * j + 2, none⟩ = some (.slice x2 n2 k2) ∧ AltV D w (.slice x0 n0 k0) p.1 ∧ NotV w (.slice x2 n2 k2) p.2.2 ∧ l.drop j = p :: l.drop (j + 1) ∧ p ∈ l := by
  obtain ⟨c0, c2, p, h0, h1, h2, ha, hn, hd, hm⟩ := PrC.at2 l cs j hp hj
  obtain ⟨g, off, hA, -, q0⟩ := hr.cell h0
  have key : ∀ i u, cs[3 * j + i]? = some u → w.cell? ⟨g, off + 3 * j + i, none⟩ = some u := fun i u hu => by
    obtain ⟨g', off', ha', -, q⟩ := hr.cell hu
    rw [hA] at ha'
    injection ha' with ha'
    injection ha' with e1 e2
    subst e1; subst e2
    rw [Nat.add_assoc]; exact q
  obtain ⟨xa, xc, xs, e0, -⟩ := id ha
  obtain ⟨ya, yc, e2, -⟩ := id hn
  subst e0; subst e2
  exact ⟨g, off, _, _, _, _, _, _, p, hA, block_lt' q0, q0, key 1 _ h1, key 2 _ h2, ha, hn, hd, hm⟩
theorem GramV.kp {D D' : Nat → Prop} {w X : World} {v : Value} {g : GR} (h : GramV D w v g) (k : ∀ g o, D g → w.heap[g]? = some o → D' g ∧ X.heap[g]? = some o) (kr : KR w X) (hs : ∀ g, D g → g < w.heap.size) : GramV D' X v g := by
  obtain ⟨a, c, cs, aK, cK, e, h1, h2, h3⟩ := h
  refine ⟨a, c, cs, aK, cK, e, h1.kept (fun g cur fr hd hg => k g _ hd hg), PrC.kp ⟨kr, fun g cur fr t _ hd hg => k g _ hd hg⟩ _ _ h2, h3.kept (fun g hg => ?_)⟩
  have hlt := hs g hg
  obtain ⟨k1, k2⟩ := k g _ hg (Array.getElem?_eq_getElem hlt)
  exact ⟨k1, k2.trans (Array.getElem?_eq_getElem hlt).symm⟩
theorem GramV.later {D : Nat → Prop} {w X : World} {v : Value} {g : GR} (h : GramV D w v g) (b : Below w.heap.size w X) (hs : ∀ g, D g → g < w.heap.size) : GramV D X v g :=
  h.kp (fun g o hd hg => ⟨hd, (b.block g (hs g hd)).trans hg⟩) (KR.of b) hs
set_option maxRecDepth 20000 in
set_option maxHeartbeats 8000000 in
theorem fMay_l {D : Nat → Prop} (v : Value) (g : GR) (w : World) (h : GramV D w v g) :
    Calls Tryz.prog 12 #[v] w fun e w' => e = .returned (.bool (gramB g.1)) ∧ Below w.heap.size w w' := by
  have B1 : ∀ o, Below w.heap.size w (w.alloc o) := fun o => Below.new1 o
  obtain ⟨a, c, cs, aK, cK, rfl, hr, hp, -⟩ := h
  obtain ⟨P, K⟩ := g
  simp only at hr hp ⊢
  have hc1 := hr.1
  have hc2 := hr.2.1
  unfold maxLen at hc2
  have HR := hideR hr
  have HP := hideR hp
  clear hr hp
  unfold gramB
  generalize hn : P.length = n at *
  have HN := hideR hn
  clear hn
  generalize K.length = nK at *
  generalize hTT : (P.all fun p => prodB p n) = TT at *
  have HTT := hideR hTT
  clear hTT
  by_cases h1 : 1 ≤ n
  · by_cases h60 : n ≤ 60
    · have b1 : decide ((n : Int) < 1) = false := decide_eq_false (by omega)
      have b2 : decide (60 < (n : Int)) = false := decide_eq_false (by omega)
      rw [decide_eq_true h1, decide_eq_true h60]
      clear h1 h60
      go_enter Tryz.func12, Tryz.ntmps12
      go_wp2_with fail
      go_loopw [18] (fun i wr => ∃ (j : Nat), j ≤ n ∧ i = .int .i64 (j : Int) ∧ Hid ((P.all fun p => prodB p n) = (P.drop j).all fun p => prodB p n) ∧ Hid (Below w.heap.size w wr) ∧ w.heap.size ≤ wr.heap.size) (fun i _ => n - (intOf i).toNat)
      case atStart => exact ⟨0, Nat.zero_le _, rfl, rfl, B1 _, by simp⟩
      case round =>
        obtain ⟨j, hj, rfl, hO, hB, hs⟩ := hrel
        by_cases hlt : j < n
        · obtain ⟨g, off, x0, n0, k0, x2, n2, k2, p, rfl, hg, q0, q1, q2, ha, hn, hd, hm⟩ := prods_at ((unhideR HR).kept (fun g cur fr hd hg => ⟨hd, ((unhideR hB).block g (Array.getElem?_eq_some_iff.1 hg).1).trans hg⟩)) (PrC.kp (Kp.of (unhideR hB)) _ _ (unhideR HP)) j (by rw [unhideR HN]; exact hlt)
          have CP := hideR (fun W (bW : Below wr.heap.size wr W) => mayProd_l p _ _ (n : Int) W (ha.kp (Kp.of bW)) (hn.kr (KR.of bW)))
          have STEP : Hid ((P.all fun p => prodB p n) = (prodB p n && (P.drop (j + 1)).all fun p => prodB p n)) := by show _ = _; rw [unhideR hO, hd]; rfl
          have j3 : j * 3 = 3 * j := by omega
          clear ha hn hd hm hO
          generalize p.2.1 = mk at *
          have BN := fun o => Below.new1 (w := wr) o
          cases hpb : prodB p n with
          | false =>
            rw [hpb] at CP
            have FIN : Hid (TT = false) := by show _ = _; rw [← unhideR HTT, unhideR STEP, hpb]; rfl
            clear hpb STEP
            go_wp2_with fail
            refine (unhideR CP _ (BN _)).mono ?_
            rintro e w4 ⟨rfl, b4⟩
            clear CP
            go_wp2_with fail
            go_ret
            exact ⟨by rw [unhideR FIN]; simp, bthen (unhideR hB) (bthen (BN _) b4)⟩
          | true =>
            rw [hpb] at CP
            have NXT : Hid ((P.all fun p => prodB p n) = (P.drop (j + 1)).all fun p => prodB p n) := by show _ = _; rw [unhideR STEP, hpb]; rfl
            clear hpb STEP
            go_wp2_with fail
            refine (unhideR CP _ (BN _)).mono ?_
            rintro e w4 ⟨rfl, b4⟩
            clear CP
            have B4 := hideR (bthen (unhideR hB) (bthen (BN _) b4))
            have s4 := (unhideR B4).size
            clear b4
            go_wp2_with fail
            go_roundw
            case rel => exact ⟨j + 1, by omega, by simp, NXT, B4, s4⟩
            case measure => simp [intOf]; omega
        · obtain rfl : j = n := by omega
          have FIN : Hid (TT = true) := by
            show _ = _
            rw [← unhideR HTT, unhideR hO, List.drop_eq_nil_of_le (by rw [unhideR HN]; exact Nat.le_refl _)]; rfl
          go_wp2_with fail
          go_ret
          exact ⟨by rw [unhideR FIN]; simp, unhideR hB⟩
    · have b1 : decide ((n : Int) < 1) = false := decide_eq_false (by omega)
      have b2 : decide (60 < (n : Int)) = true := decide_eq_true (by omega)
      rw [decide_eq_true h1, decide_eq_false h60]
      clear h1 h60
      go_enter Tryz.func12, Tryz.ntmps12
      go_wp2_with fail
      go_ret
      exact ⟨by simp, B1 _⟩
  · have b1 : decide ((n : Int) < 1) = true := decide_eq_true (by omega)
    rw [decide_eq_false h1]
    clear h1
    go_enter Tryz.func12, Tryz.ntmps12
    go_wp2_with fail
    go_ret
    exact ⟨by simp, B1 _⟩
end Go.Proofs.YtamefbpdnblbdaaGreatDoor.F

namespace Go.Proofs.YtamefbpdnblbdaaGreatDoor.F
open Go.RowKit Go.Proofs.YtamefbpdnblbdaaGreatDoor.T Go.Proofs.YtamefbpdnblbdaaGreatDoor.R
set_option linter.unusedVariables false
set_option linter.unusedSimpArgs false

def eqF {α : Type} (f : α → α → Bool) : List α → List α → Bool
  | [], [] => true
  | a :: A, b :: B => f a b && eqF f A B
  | _, _ => false
theorem eqF_len {α : Type} (f : α → α → Bool) : ∀ (A B : List α), A.length ≠ B.length → eqF f A B = false := by
  intro A
  induction A with
  | nil => intro B h; cases B with
    | nil => exact absurd rfl h
    | cons b B => rfl
  | cons a A ih => intro B h; cases B with
    | nil => rfl
    | cons b B => unfold eqF; rw [ih B (by simpa using h)]; simp
theorem eqF_cons {α : Type} (f : α → α → Bool) (a b : α) (A B : List α) : eqF f (a :: A) (b :: B) = (f a b && eqF f A B) := rfl
theorem eqF_iff {α : Type} (f : α → α → Bool) (h : ∀ a b, f a b = true ↔ a = b) : ∀ A B : List α, eqF f A B = true ↔ A = B := by
  intro A
  induction A with
  | nil => intro B; cases B with
    | nil => simp [eqF]
    | cons b B => simp [eqF]
  | cons a A ih => intro B; cases B with
    | nil => simp [eqF]
    | cons b B => rw [eqF_cons, Bool.and_eq_true, h, ih]; simp
def symE (s t : SY) : Bool := decide (s.1 = t.1) && (decide (s.2.2 = t.2.2) && sameB s.2.1 t.2.1)
def prodE (p q : PRD) : Bool := decide (p.2.1 = q.2.1) && (sameB p.2.2 q.2.2 && eqF (eqF symE) p.1 q.1)
def strE (x y : List Int) : Bool := decide (x = y)
def gramE (g h : GR) : Bool := eqF strE g.2 h.2 && eqF prodE g.1 h.1
theorem symE_iff (s t : SY) : symE s t = true ↔ s = t := by
  obtain ⟨a, b, c⟩ := s
  obtain ⟨a', b', c'⟩ := t
  unfold symE sameB
  simp only [Bool.and_eq_true, decide_eq_true_eq, Prod.mk.injEq]
  constructor
  · rintro ⟨h1, h2, h3⟩; exact ⟨h1, h3, h2⟩
  · rintro ⟨h1, h2, h3⟩; exact ⟨h1, h3, h2⟩
theorem prodE_iff (s t : PRD) : prodE s t = true ↔ s = t := by
  obtain ⟨a, b, c⟩ := s
  obtain ⟨a', b', c'⟩ := t
  unfold prodE sameB
  simp only [Bool.and_eq_true, decide_eq_true_eq, eqF_iff _ (fun A B => eqF_iff _ symE_iff A B), Prod.mk.injEq]
  constructor
  · rintro ⟨h1, h2, h3⟩; exact ⟨h3, h1, h2⟩
  · rintro ⟨h1, h2, h3⟩; exact ⟨h2, h3, h1⟩
theorem gramE_iff (g h : GR) : gramE g h = true ↔ g = h := by
  obtain ⟨a, b⟩ := g
  obtain ⟨a', b'⟩ := h
  unfold gramE
  simp only [Bool.and_eq_true, eqF_iff _ prodE_iff, eqF_iff strE (fun x y => by unfold strE; simp), Prod.mk.injEq]
  exact and_comm
set_option maxRecDepth 20000 in
set_option maxHeartbeats 2000000 in
theorem sameSym_l (s t : SY) (a a2 : Option Addr) (c c2 : Nat) (w : World) (h : Rs w a s.2.1.length c s.2.1) (h2 : Rs w a2 t.2.1.length c2 t.2.1) :
    Calls Tryz.prog 115 #[.agg #[.int .i64 s.1, .slice a s.2.1.length c, .int .i64 s.2.2], .agg #[.int .i64 t.1, .slice a2 t.2.1.length c2, .int .i64 t.2.2]] w fun e w' => e = .returned (.bool (symE s t)) ∧ Below w.heap.size w w' := by
  have B2 : ∀ o1 o2, Below w.heap.size w ((w.alloc o1).alloc o2) := fun o1 o2 => (Below.new1 o1).alloc (by simp) o2
  have CS := hideR (fun W (bW : Below w.heap.size w W) => rgSame_any a s.2.1.length c s.2.1 a2 t.2.1.length c2 t.2.1 W (h.later bW (Nat.le_refl _)) (h2.later bW (Nat.le_refl _)))
  obtain ⟨k, R, N⟩ := s
  obtain ⟨k2, R2, N2⟩ := t
  unfold symE
  simp only at CS ⊢
  clear h h2
  generalize sameB R R2 = r at *
  generalize R.length = n at *
  generalize R2.length = n2 at *
  by_cases hk : k = k2
  · have bk : (k == k2) = true := by rw [hk]; simp
    rw [decide_eq_true hk]
    by_cases hN : N = N2
    · have bN : (N == N2) = true := by rw [hN]; simp
      rw [decide_eq_true hN]
      clear hk hN
      go_enter Tryz.func115, Tryz.ntmps115
      go_wp2_with fail
      refine (unhideR CS _ (B2 _ _)).mono ?_
      rintro e w1 ⟨rfl, b1⟩
      clear CS
      go_wp2_with fail
      go_ret
      exact ⟨by simp, bthen (B2 _ _) b1⟩
    · have bN : (N == N2) = false := beq_eq_false_iff_ne.2 hN
      rw [decide_eq_false hN]
      clear hk hN CS
      go_enter Tryz.func115, Tryz.ntmps115
      go_wp2_with fail
      go_ret
      exact ⟨by simp, B2 _ _⟩
  · have bk : (k == k2) = false := beq_eq_false_iff_ne.2 hk
    rw [decide_eq_false hk]
    clear hk CS
    go_enter Tryz.func115, Tryz.ntmps115
    go_wp2_with fail
    go_ret
    exact ⟨by simp, B2 _ _⟩
set_option maxRecDepth 20000 in
set_option maxHeartbeats 4000000 in
theorem equalSym_l {D D' : Nat → Prop} (x y : Option Addr) (n c n2 c2 : Nat) (A B : List SY) (w : World) (ha : SymsV D w (.slice x n c) A) (hb : SymsV D' w (.slice y n2 c2) B) :
    Calls Tryz.prog 114 #[.slice x n c, .slice y n2 c2, .func (.func 115) #[] #[]] w fun e w' => e = .returned (.bool (eqF symE A B)) ∧ Below w.heap.size w w' := by
  obtain ⟨hnA0, hc1, hc2⟩ := ha.form
  obtain ⟨hnB0, hd1, hd2⟩ := hb.form
  rw [← hnA0] at hc1
  rw [← hnB0] at hd1
  have hnA := hnA0.symm
  have hnB := hnB0.symm
  clear hnA0 hnB0
  have HA := hideR ha
  have HB := hideR hb
  clear ha hb
  unfold maxLen at hc2 hd2
  by_cases hq : n = n2
  · subst hq
    have HNA := hideR hnA
    have HNB := hideR hnB
    clear hnA hnB
    go_enter Tryz.func114, Tryz.ntmps114
    go_wp2_with fail
    go_loopw [17] (fun i wr => ∃ (j : Nat), j ≤ n ∧ i = .int .i64 (j : Int) ∧ Hid (eqF symE A B = eqF symE (A.drop j) (B.drop j)) ∧ Hid (Below w.heap.size w wr) ∧ w.heap.size ≤ wr.heap.size) (fun i _ => n - (intOf i).toNat)
    case atStart => exact ⟨0, Nat.zero_le _, rfl, rfl, Below.refl _ _, Nat.le_refl _⟩
    case round =>
      obtain ⟨j, hj, rfl, hO, hB, hs⟩ := hrel
      by_cases hlt : j < n
      · obtain ⟨gA, oA, s, aa, ca, rfl, hgA, q0, q1, q2, rsA, tyA, hdA, hmA⟩ := syms_at ((unhideR HA).kp (Kp.of (unhideR hB))) j (by rw [unhideR HNA]; exact hlt)
        obtain ⟨gB, oB, t, ab, cb, rfl, hgB, p0, p1, p2, rsB, tyB, hdB, hmB⟩ := syms_at ((unhideR HB).kp (Kp.of (unhideR hB))) j (by rw [unhideR HNB]; exact hlt)
        have STEP : Hid (eqF symE A B = (symE s t && eqF symE (A.drop (j + 1)) (B.drop (j + 1)))) := by show _ = _; rw [unhideR hO, hdA, hdB]; rfl
        have CP := hideR (fun W (bW : Below wr.heap.size wr W) => sameSym_l s t aa ab ca cb W (rsA.later bW (Nat.le_refl _)) (rsB.later bW (Nat.le_refl _)))
        have j3 : j * 3 = 3 * j := by omega
        have BN : ∀ o1 o2, Below wr.heap.size wr ((wr.alloc o1).alloc o2) := fun o1 o2 => (Below.new1 o1).alloc (by simp) o2
        clear hO hdA hdB hmA hmB rsA rsB tyA tyB
        generalize hE0 : symE s t = E0 at *
        generalize s.1 = s1 at *
        generalize s.2.2 = s2 at *
        generalize s.2.1.length = s3 at *
        generalize t.1 = t1 at *
        generalize t.2.2 = t2 at *
        generalize t.2.1.length = t3 at *
        cases hE : E0 with
        | false =>
          rw [hE] at CP
          have FIN : Hid (eqF symE A B = false) := by show _ = _; rw [unhideR STEP, hE]; rfl
          clear hE STEP
          go_wp2_with fail
          refine (unhideR CP _ (BN _ _)).mono ?_
          rintro e w4 ⟨rfl, b4⟩
          clear CP
          go_wp2_with fail
          go_ret
          exact ⟨by rw [unhideR FIN]; rfl, bthen (unhideR hB) (bthen (BN _ _) b4)⟩
        | true =>
          rw [hE] at CP
          have NXT : Hid (eqF symE A B = eqF symE (A.drop (j + 1)) (B.drop (j + 1))) := by show _ = _; rw [unhideR STEP, hE]; rfl
          clear hE STEP
          go_wp2_with fail
          refine (unhideR CP _ (BN _ _)).mono ?_
          rintro e w4 ⟨rfl, b4⟩
          clear CP
          have B4 := hideR (bthen (unhideR hB) (bthen (BN _ _) b4))
          have s4 := (unhideR B4).size
          clear b4
          go_wp2_with fail
          go_roundw
          case rel => exact ⟨j + 1, by omega, by simp, NXT, B4, s4⟩
          case measure => simp [intOf]; omega
      · obtain rfl : j = n := by omega
        have FIN : Hid (eqF symE A B = true) := by show _ = _; rw [unhideR hO, List.drop_eq_nil_of_le (by rw [unhideR HNA]; exact Nat.le_refl _), List.drop_eq_nil_of_le (by rw [unhideR HNB]; exact Nat.le_refl _)]; rfl
        go_wp2_with fail
        go_ret
        exact ⟨by rw [unhideR FIN]; rfl, unhideR hB⟩
  · have FIN : Hid (eqF symE A B = false) := by show _ = _; exact eqF_len _ _ _ (by rw [hnA, hnB]; exact hq)
    have bq : ((n : Int) != (n2 : Int)) = true := by rw [bne_iff_ne]; omega
    clear hnA hnB hq HA HB
    go_enter Tryz.func114, Tryz.ntmps114
    go_wp2_with fail
    go_ret
    exact ⟨by rw [unhideR FIN]; rfl, Below.refl _ _⟩
set_option maxRecDepth 20000 in
theorem sameSyms_l {D D' : Nat → Prop} (x y : Option Addr) (n c n2 c2 : Nat) (A B : List SY) (w : World) (ha : SymsV D w (.slice x n c) A) (hb : SymsV D' w (.slice y n2 c2) B) :
    Calls Tryz.prog 75 #[.slice x n c, .slice y n2 c2] w fun e w' => e = .returned (.bool (eqF symE A B)) ∧ Below w.heap.size w w' := by
  have C := hideR (equalSym_l x y n c n2 c2 A B w ha hb)
  clear ha hb
  generalize eqF symE A B = r at *
  go_enter Tryz.func75, Tryz.ntmps75
  go_wp2_with fail
  refine (unhideR C).mono ?_
  rintro e w1 ⟨rfl, b1⟩
  clear C
  go_wp2_with fail
  go_ret
  exact ⟨rfl, b1⟩
set_option maxRecDepth 20000 in
set_option maxHeartbeats 4000000 in
theorem equalAlt_l {D D' : Nat → Prop} (x y : Option Addr) (n c n2 c2 : Nat) (A B : List (List SY)) (w : World) (ha : AltV D w (.slice x n c) A) (hb : AltV D' w (.slice y n2 c2) B) :
    Calls Tryz.prog 74 #[.slice x n c, .slice y n2 c2, .func (.func 75) #[] #[]] w fun e w' => e = .returned (.bool (eqF (eqF symE) A B)) ∧ Below w.heap.size w w' := by
  have fa : A.length = n ∧ n ≤ c ∧ c ≤ maxLen := by obtain ⟨a, c, e, h1, h2⟩ := ha.form; injection e with e1 e2 e3; subst e2; subst e3; exact ⟨rfl, h1, h2⟩
  have fb : B.length = n2 ∧ n2 ≤ c2 ∧ c2 ≤ maxLen := by obtain ⟨a, c, e, h1, h2⟩ := hb.form; injection e with e1 e2 e3; subst e2; subst e3; exact ⟨rfl, h1, h2⟩
  obtain ⟨hnA, hc1, hc2⟩ := fa
  obtain ⟨hnB, hd1, hd2⟩ := fb
  have HA := hideR ha
  have HB := hideR hb
  clear ha hb
  unfold maxLen at hc2 hd2
  by_cases hq : n = n2
  · subst hq
    have HNA := hideR hnA
    have HNB := hideR hnB
    clear hnA hnB
    go_enter Tryz.func74, Tryz.ntmps74
    go_wp2_with fail
    go_loopw [17] (fun i wr => ∃ (j : Nat), j ≤ n ∧ i = .int .i64 (j : Int) ∧ Hid (eqF (eqF symE) A B = eqF (eqF symE) (A.drop j) (B.drop j)) ∧ Hid (Below w.heap.size w wr) ∧ w.heap.size ≤ wr.heap.size) (fun i _ => n - (intOf i).toNat)
    case atStart => exact ⟨0, Nat.zero_le _, rfl, rfl, Below.refl _ _, Nat.le_refl _⟩
    case round =>
      obtain ⟨j, hj, rfl, hO, hB, hs⟩ := hrel
      by_cases hlt : j < n
      · have HA1 := (unhideR HA).kp (Kp.of (unhideR hB))
        rw [← unhideR HNA] at HA1
        obtain ⟨gA, oA, xA, cA, s, rfl, hgA, q0, hdA, svA⟩ := HA1.at j (by rw [unhideR HNA]; exact hlt)
        have HB1 := (unhideR HB).kp (Kp.of (unhideR hB))
        rw [← unhideR HNB] at HB1
        obtain ⟨gB, oB, xB, cB, t, rfl, hgB, p0, hdB, svB⟩ := HB1.at j (by rw [unhideR HNB]; exact hlt)
        have STEP : Hid (eqF (eqF symE) A B = (eqF symE s t && eqF (eqF symE) (A.drop (j + 1)) (B.drop (j + 1)))) := by show _ = _; rw [unhideR hO, hdA, hdB]; rfl
        have CP := hideR (fun W (bW : Below wr.heap.size wr W) => sameSyms_l xA xB s.length cA t.length cB s t W (svA.kp (Kp.of bW)) (svB.kp (Kp.of bW)))
        clear hO hdA hdB svA svB HA1 HB1
        generalize hE0 : eqF symE s t = E0 at *
        generalize s.length = sl at *
        generalize t.length = tl at *
        cases hE : E0 with
        | false =>
          rw [hE] at CP
          have FIN : Hid (eqF (eqF symE) A B = false) := by show _ = _; rw [unhideR STEP, hE]; rfl
          clear hE STEP
          go_wp2_with fail
          refine (unhideR CP _ (Below.refl _ _)).mono ?_
          rintro e w4 ⟨rfl, b4⟩
          clear CP
          go_wp2_with fail
          go_ret
          exact ⟨by rw [unhideR FIN]; rfl, bthen (unhideR hB) (bthen (Below.refl _ _) b4)⟩
        | true =>
          rw [hE] at CP
          have NXT : Hid (eqF (eqF symE) A B = eqF (eqF symE) (A.drop (j + 1)) (B.drop (j + 1))) := by show _ = _; rw [unhideR STEP, hE]; rfl
          clear hE STEP
          go_wp2_with fail
          refine (unhideR CP _ (Below.refl _ _)).mono ?_
          rintro e w4 ⟨rfl, b4⟩
          clear CP
          have B4 := hideR (bthen (unhideR hB) (bthen (Below.refl _ _) b4))
          have s4 := (unhideR B4).size
          clear b4
          go_wp2_with fail
          go_roundw
          case rel => exact ⟨j + 1, by omega, by simp, NXT, B4, s4⟩
          case measure => simp [intOf]; omega
      · obtain rfl : j = n := by omega
        have FIN : Hid (eqF (eqF symE) A B = true) := by show _ = _; rw [unhideR hO, List.drop_eq_nil_of_le (by rw [unhideR HNA]; exact Nat.le_refl _), List.drop_eq_nil_of_le (by rw [unhideR HNB]; exact Nat.le_refl _)]; rfl
        go_wp2_with fail
        go_ret
        exact ⟨by rw [unhideR FIN]; rfl, unhideR hB⟩
  · have FIN : Hid (eqF (eqF symE) A B = false) := by show _ = _; exact eqF_len _ _ _ (by rw [hnA, hnB]; exact hq)
    have bq : ((n : Int) != (n2 : Int)) = true := by rw [bne_iff_ne]; omega
    clear hnA hnB hq HA HB
    go_enter Tryz.func74, Tryz.ntmps74
    go_wp2_with fail
    go_ret
    exact ⟨by rw [unhideR FIN]; rfl, Below.refl _ _⟩
set_option maxRecDepth 20000 in
set_option maxHeartbeats 4000000 in
theorem sameProd_l {D D' : Nat → Prop} (p q : PRD) (x0 y0 x2 y2 : Option Addr) (n0 k0 n2' k2 m0 l0 m2' l2 : Nat) (w : World) (ha : AltV D w (.slice x0 n0 k0) p.1) (hn : NotV w (.slice x2 n2' k2) p.2.2) (hb : AltV D' w (.slice y0 m0 l0) q.1) (hm : NotV w (.slice y2 m2' l2) q.2.2) :
    Calls Tryz.prog 43 #[.agg #[.slice x0 n0 k0, .int .i64 p.2.1, .slice x2 n2' k2], .agg #[.slice y0 m0 l0, .int .i64 q.2.1, .slice y2 m2' l2]] w fun e w' => e = .returned (.bool (prodE p q)) ∧ Below w.heap.size w w' := by
  have B2 : ∀ o1 o2, Below w.heap.size w ((w.alloc o1).alloc o2) := fun o1 o2 => (Below.new1 o1).alloc (by simp) o2
  obtain ⟨aN, cN, e2, rN, yN⟩ := hn
  obtain ⟨aM, cM, e4, rM, yM⟩ := hm
  injection e2 with e21 e22 e23
  subst e21
  subst e22
  subst e23
  injection e4 with e41 e42 e43
  subst e41
  subst e42
  subst e43
  have CS := hideR (fun W (bW : Below w.heap.size w W) => rgSame_any x2 p.2.2.length k2 p.2.2 y2 q.2.2.length l2 q.2.2 W (rN.later bW (Nat.le_refl _)) (rM.later bW (Nat.le_refl _)))
  have CA := hideR (fun W (bW : Below w.heap.size w W) => equalAlt_l x0 y0 n0 k0 m0 l0 p.1 q.1 W (ha.kp (Kp.of bW)) (hb.kp (Kp.of bW)))
  obtain ⟨A, mk, N⟩ := p
  obtain ⟨A2, mk2, N2⟩ := q
  unfold prodE
  simp only at CS CA ⊢
  clear ha hb rN rM yN yM
  generalize sameB N N2 = r at *
  generalize eqF (eqF symE) A A2 = r2 at *
  generalize N.length = n at *
  generalize N2.length = n2 at *
  by_cases hk : mk = mk2
  · have bk : (mk == mk2) = true := by rw [hk]; simp
    rw [decide_eq_true hk]
    clear hk
    cases r with
    | false =>
      clear CA
      go_enter Tryz.func43, Tryz.ntmps43
      go_wp2_with fail
      refine (unhideR CS _ (B2 _ _)).mono ?_
      rintro e w1 ⟨rfl, b1⟩
      clear CS
      go_wp2_with fail
      go_ret
      exact ⟨by simp, bthen (B2 _ _) b1⟩
    | true =>
      go_enter Tryz.func43, Tryz.ntmps43
      go_wp2_with fail
      refine (unhideR CS _ (B2 _ _)).mono ?_
      rintro e w1 ⟨rfl, b1⟩
      clear CS
      have P1 := kept_new b1
      rw [World.size_alloc] at P1
      have P0 := (b1.block w.heap.size (by simp; omega)).trans (old_at (heap_alloc_new w (.cells #[.slice x0 n0 k0, .int .i64 mk, .slice x2 n k2] 39)) (.cells #[.slice y0 m0 l0, .int .i64 mk2, .slice y2 n2 l2] 39))
      obtain ⟨⟨z0, z1, z2⟩, -⟩ := cells3 P0
      obtain ⟨⟨v0, v1, v2⟩, -⟩ := cells3 P1
      have BB := hideR (bthen (B2 _ _) b1)
      clear b1 P0 P1
      go_wp2_with fail
      refine (unhideR CA _ (unhideR BB)).mono ?_
      rintro e w2 ⟨rfl, b2⟩
      clear CA
      go_wp2_with fail
      go_ret
      exact ⟨by simp, bthen (unhideR BB) b2⟩
  · have bk : (mk == mk2) = false := beq_eq_false_iff_ne.2 hk
    rw [decide_eq_false hk]
    clear hk CS CA
    go_enter Tryz.func43, Tryz.ntmps43
    go_wp2_with fail
    go_ret
    exact ⟨by simp, B2 _ _⟩
set_option maxRecDepth 20000 in
set_option maxHeartbeats 4000000 in
theorem equalProd_l {D D' : Nat → Prop} (x y : Option Addr) (n c n2 c2 : Nat) (cs ds : List Value) (A B : List PRD) (w : World) (hnA : A.length = n) (hnB : B.length = n2) (ha : RowT 39 D w x n c cs ∧ PrC D w A cs) (hb : RowT 39 D' w y n2 c2 ds ∧ PrC D' w B ds) :
    Calls Tryz.prog 42 #[.slice x n c, .slice y n2 c2, .func (.func 43) #[] #[]] w fun e w' => e = .returned (.bool (eqF prodE A B)) ∧ Below w.heap.size w w' := by
  have hc1 := ha.1.1
  have hc2 := ha.1.2.1
  have hd1 := hb.1.1
  have hd2 := hb.1.2.1
  have HA := hideR ha
  have HB := hideR hb
  clear ha hb
  unfold maxLen at hc2 hd2
  by_cases hq : n = n2
  · subst hq
    have HNA := hideR hnA
    have HNB := hideR hnB
    clear hnA hnB
    go_enter Tryz.func42, Tryz.ntmps42
    go_wp2_with fail
    go_loopw [17] (fun i wr => ∃ (j : Nat), j ≤ n ∧ i = .int .i64 (j : Int) ∧ Hid (eqF prodE A B = eqF prodE (A.drop j) (B.drop j)) ∧ Hid (Below w.heap.size w wr) ∧ w.heap.size ≤ wr.heap.size) (fun i _ => n - (intOf i).toNat)
    case atStart => exact ⟨0, Nat.zero_le _, rfl, rfl, Below.refl _ _, Nat.le_refl _⟩
    case round =>
      obtain ⟨j, hj, rfl, hO, hB, hs⟩ := hrel
      by_cases hlt : j < n
      · obtain ⟨gA, oA, x0, n0, k0, x2, n2, k2, s, rfl, hgA, q0, q1, q2, aA, nA, hdA, hmA⟩ := prods_at ((unhideR HA).1.kept (fun g cur fr hd hg => ⟨hd, ((unhideR hB).block g (Array.getElem?_eq_some_iff.1 hg).1).trans hg⟩)) (PrC.kp (Kp.of (unhideR hB)) _ _ (unhideR HA).2) j (by rw [unhideR HNA]; exact hlt)
        obtain ⟨gB, oB, y0, m0, l0, y2, m2, l2, t, rfl, hgB, p0, p1, p2, aB, nB, hdB, hmB⟩ := prods_at ((unhideR HB).1.kept (fun g cur fr hd hg => ⟨hd, ((unhideR hB).block g (Array.getElem?_eq_some_iff.1 hg).1).trans hg⟩)) (PrC.kp (Kp.of (unhideR hB)) _ _ (unhideR HB).2) j (by rw [unhideR HNB]; exact hlt)
        have STEP : Hid (eqF prodE A B = (prodE s t && eqF prodE (A.drop (j + 1)) (B.drop (j + 1)))) := by show _ = _; rw [unhideR hO, hdA, hdB]; rfl
        have CP := hideR (fun W (bW : Below wr.heap.size wr W) => sameProd_l s t x0 y0 x2 y2 n0 k0 n2 k2 m0 l0 m2 l2 W (aA.kp (Kp.of bW)) (nA.kr (KR.of bW)) (aB.kp (Kp.of bW)) (nB.kr (KR.of bW)))
        have j3 : j * 3 = 3 * j := by omega
        have BN : ∀ o1 o2, Below wr.heap.size wr ((wr.alloc o1).alloc o2) := fun o1 o2 => (Below.new1 o1).alloc (by simp) o2
        clear hO hdA hdB hmA hmB aA aB nA nB
        generalize hE0 : prodE s t = E0 at *
        generalize s.2.1 = s1 at *
        generalize t.2.1 = t1 at *
        cases hE : E0 with
        | false =>
          rw [hE] at CP
          have FIN : Hid (eqF prodE A B = false) := by show _ = _; rw [unhideR STEP, hE]; rfl
          clear hE STEP
          go_wp2_with fail
          refine (unhideR CP _ (BN _ _)).mono ?_
          rintro e w4 ⟨rfl, b4⟩
          clear CP
          go_wp2_with fail
          go_ret
          exact ⟨by rw [unhideR FIN]; rfl, bthen (unhideR hB) (bthen (BN _ _) b4)⟩
        | true =>
          rw [hE] at CP
          have NXT : Hid (eqF prodE A B = eqF prodE (A.drop (j + 1)) (B.drop (j + 1))) := by show _ = _; rw [unhideR STEP, hE]; rfl
          clear hE STEP
          go_wp2_with fail
          refine (unhideR CP _ (BN _ _)).mono ?_
          rintro e w4 ⟨rfl, b4⟩
          clear CP
          have B4 := hideR (bthen (unhideR hB) (bthen (BN _ _) b4))
          have s4 := (unhideR B4).size
          clear b4
          go_wp2_with fail
          go_roundw
          case rel => exact ⟨j + 1, by omega, by simp, NXT, B4, s4⟩
          case measure => simp [intOf]; omega
      · obtain rfl : j = n := by omega
        have FIN : Hid (eqF prodE A B = true) := by show _ = _; rw [unhideR hO, List.drop_eq_nil_of_le (by rw [unhideR HNA]; exact Nat.le_refl _), List.drop_eq_nil_of_le (by rw [unhideR HNB]; exact Nat.le_refl _)]; rfl
        go_wp2_with fail
        go_ret
        exact ⟨by rw [unhideR FIN]; rfl, unhideR hB⟩
  · have FIN : Hid (eqF prodE A B = false) := by show _ = _; exact eqF_len _ _ _ (by rw [hnA, hnB]; exact hq)
    have bq : ((n : Int) != (n2 : Int)) = true := by rw [bne_iff_ne]; omega
    clear hnA hnB hq HA HB
    go_enter Tryz.func42, Tryz.ntmps42
    go_wp2_with fail
    go_ret
    exact ⟨by rw [unhideR FIN]; rfl, Below.refl _ _⟩
theorem neqStr (S T : ByteArray) (w : World) : (binOp .neq 9 (.string S) (.string T)).run Tryz.prog w = .ok (.bool (S.toList != T.toList)) w := by
  have h : (S == T) = (S.toList == T.toList) := beq_toListBytes ..
  simp [binOp, run_underlying Tryz.underlying9, Op.stringOp, h, bne]
theorem str_ne {x y : List Int} (hx : U.isBytes x) (hy : U.isBytes y) : ((strOfNums x).toList != (strOfNums y).toList) = !(strE x y) := by
  unfold bne strE
  rw [str_eq_list (St.of hx) (St.of hy)]
set_option maxRecDepth 20000 in
set_option maxHeartbeats 4000000 in
theorem equalStr_l {D D' : Nat → Prop} (x y : Option Addr) (n c n2 c2 : Nat) (A B : List (List Int)) (w : World) (ha : Ss D w x n c A) (hb : Ss D' w y n2 c2 B) :
    Calls Tryz.prog 41 #[.slice x n c, .slice y n2 c2] w fun e w' => e = .returned (.bool (eqF strE A B)) ∧ Below w.heap.size w w' := by
  obtain ⟨hnA, hc1, hc2, hbA, hcA⟩ := ha
  obtain ⟨hnB, hd1, hd2, hbB, hcB⟩ := hb
  unfold maxLen at hc2 hd2
  by_cases hq : n = n2
  · subst hq
    have HNA := hideR hnA
    have HNB := hideR hnB
    have HA := hideR hcA
    have HB := hideR hcB
    have HBA := hideR hbA
    have HBB := hideR hbB
    clear hnA hnB hcA hcB hbA hbB
    go_enter Tryz.func41, Tryz.ntmps41
    go_wp2_with fail
    go_loopw [13] (fun i wr => ∃ (j : Nat), j ≤ n ∧ i = .int .i64 (j : Int) ∧ Hid (eqF strE A B = eqF strE (A.drop j) (B.drop j)) ∧ Hid (∃ k, wr = w.drewN k)) (fun i _ => n - (intOf i).toNat)
    case atStart => exact ⟨0, Nat.zero_le _, rfl, rfl, ⟨0, rfl⟩⟩
    case round =>
      obtain ⟨j, hj, rfl, hO, hw⟩ := hrel
      obtain ⟨k0, hw⟩ := unhideR hw
      by_cases hlt : j < n
      · have hjA : j < A.length := by rw [unhideR HNA]; exact hlt
        have hjB : j < B.length := by rw [unhideR HNB]; exact hlt
        obtain ⟨gA, oA, rfl, -, qA⟩ := unhideR HA j A[j] (List.getElem?_eq_getElem hjA)
        obtain ⟨gB, oB, rfl, -, qB⟩ := unhideR HB j B[j] (List.getElem?_eq_getElem hjB)
        have bA := unhideR HBA A[j] (List.getElem_mem hjA)
        have bB := unhideR HBB B[j] (List.getElem_mem hjB)
        have STEP : Hid (eqF strE A B = (strE A[j] B[j] && eqF strE (A.drop (j + 1)) (B.drop (j + 1)))) := by show _ = _; rw [unhideR hO, List.drop_eq_getElem_cons hjA, List.drop_eq_getElem_cons hjB]; rfl
        have k1 : ∀ d, (wr.drewN d).cell? ⟨gA, oA + j, none⟩ = some (.string (strOfNums A[j])) := fun d => by rw [hw]; exact qA
        have k2 : ∀ d, (wr.drewN d).cell? ⟨gB, oB + j, none⟩ = some (.string (strOfNums B[j])) := fun d => by rw [hw]; exact qB
        have hn : ∀ d, (binOp .neq 9 (.string (strOfNums A[j])) (.string (strOfNums B[j]))).run Tryz.prog (wr.drewN d) = .ok (.bool (!(strE A[j] B[j]))) (wr.drewN d) := fun d => by rw [neqStr, str_ne bA bB]
        have hq1 : ((strOfNums A[j]).toList == (strOfNums B[j]).toList) = strE A[j] B[j] := str_eq_list (St.of bA) (St.of bB)
        have hq2 : ((strOfNums A[j]).toList != (strOfNums B[j]).toList) = !(strE A[j] B[j]) := str_ne bA bB
        have HW := hideR hw
        clear hO bA bB qA qB hw
        generalize strOfNums A[j] = SA at *
        generalize strOfNums B[j] = SB at *
        generalize hE0 : strE A[j] B[j] = E0 at *
        clear hE0 hjA hjB
        cases hE : E0 with
        | false =>
          rw [hE] at hn hq1 hq2
          simp only [Bool.not_false] at hn hq2
          have FIN : Hid (eqF strE A B = false) := by show _ = _; rw [unhideR STEP, hE]; rfl
          clear hE STEP
          go_wp2_with fail
          go_quiet (fail)
          go_wp2_with fail
          go_ret
          exact ⟨by rw [unhideR FIN]; rfl, by rw [unhideR HW]; exact draws_b.trans draws_b⟩
        | true =>
          rw [hE] at hn hq1 hq2
          simp only [Bool.not_true] at hn hq2
          have NXT : Hid (eqF strE A B = eqF strE (A.drop (j + 1)) (B.drop (j + 1))) := by show _ = _; rw [unhideR STEP, hE]; rfl
          clear hE STEP
          go_wp2_with fail
          go_quiet (fail)
          go_wp2_with fail
          go_roundw
          case rel => exact ⟨j + 1, by omega, by simp, NXT, ⟨k0 + nq, by rw [unhideR HW, World.drewN_drewN]⟩⟩
          case measure => simp [intOf]; omega
      · obtain rfl : j = n := by omega
        have FIN : Hid (eqF strE A B = true) := by show _ = _; rw [unhideR hO, List.drop_eq_nil_of_le (by rw [unhideR HNA]; exact Nat.le_refl _), List.drop_eq_nil_of_le (by rw [unhideR HNB]; exact Nat.le_refl _)]; rfl
        have HW := hideR hw
        clear hw
        go_wp2_with fail
        go_ret
        exact ⟨by rw [unhideR FIN]; rfl, by rw [unhideR HW]; exact draws_b⟩
  · have FIN : Hid (eqF strE A B = false) := by show _ = _; exact eqF_len _ _ _ (by rw [hnA, hnB]; exact hq)
    have bq : ((n : Int) != (n2 : Int)) = true := by rw [bne_iff_ne]; omega
    clear hnA hnB hq hcA hcB hbA hbB
    go_enter Tryz.func41, Tryz.ntmps41
    go_wp2_with fail
    go_ret
    exact ⟨by rw [unhideR FIN]; rfl, Below.refl _ _⟩
set_option maxRecDepth 20000 in
set_option maxHeartbeats 4000000 in
theorem fSame_l {D D' : Nat → Prop} (v v' : Value) (g h : GR) (w : World) (hg : GramV D w v g) (hh : GramV D' w v' h) (hD : ∀ g, D g → g < w.heap.size) (hD' : ∀ g, D' g → g < w.heap.size) :
    Calls Tryz.prog 23 #[v, v'] w fun e w' => e = .returned (.bool (gramE g h)) ∧ Below w.heap.size w w' := by
  have B2 : ∀ o1 o2, Below w.heap.size w ((w.alloc o1).alloc o2) := fun o1 o2 => (Below.new1 o1).alloc (by simp) o2
  obtain ⟨a, c, cs, aK, cK, rfl, r1, p1, s1⟩ := hg
  obtain ⟨a', c', cs', aK', cK', rfl, r2, p2, s2⟩ := hh
  have CS := hideR (fun W (bW : Below w.heap.size w W) => equalStr_l aK aK' g.2.length cK h.2.length cK' g.2 h.2 W (s1.kept (fun g hg => ⟨hg, bW.block g (hD g hg)⟩)) (s2.kept (fun g hg => ⟨hg, bW.block g (hD' g hg)⟩)))
  have CP := hideR (fun W (bW : Below w.heap.size w W) => equalProd_l a a' g.1.length c h.1.length c' cs cs' g.1 h.1 W rfl rfl ⟨r1.kept (fun g cur fr hd hg => ⟨hd, (bW.block g (Array.getElem?_eq_some_iff.1 hg).1).trans hg⟩), PrC.kp (Kp.of bW) _ _ p1⟩ ⟨r2.kept (fun g cur fr hd hg => ⟨hd, (bW.block g (Array.getElem?_eq_some_iff.1 hg).1).trans hg⟩), PrC.kp (Kp.of bW) _ _ p2⟩)
  clear r1 p1 s1 r2 p2 s2
  unfold gramE
  generalize eqF strE g.2 h.2 = x at *
  generalize eqF prodE g.1 h.1 = y at *
  generalize g.1.length = n1 at *
  generalize g.2.length = n2 at *
  generalize h.1.length = m1 at *
  generalize h.2.length = m2 at *
  cases x with
  | false =>
    clear CP
    go_enter Tryz.func23, Tryz.ntmps23
    go_wp2_with fail
    refine (unhideR CS _ (B2 _ _)).mono ?_
    rintro e w1 ⟨rfl, b1⟩
    clear CS
    go_wp2_with fail
    go_ret
    exact ⟨by simp, bthen (B2 _ _) b1⟩
  | true =>
    go_enter Tryz.func23, Tryz.ntmps23
    go_wp2_with fail
    refine (unhideR CS _ (B2 _ _)).mono ?_
    rintro e w1 ⟨rfl, b1⟩
    clear CS
    have P1 := kept_new b1
    rw [World.size_alloc] at P1
    have P0 := (b1.block w.heap.size (by simp; omega)).trans (old_at (heap_alloc_new w (.cells #[.slice a n1 c, .slice aK n2 cK] 32)) (.cells #[.slice a' m1 c', .slice aK' m2 cK'] 32))
    obtain ⟨⟨z0, z1⟩, -⟩ := cells2f P0
    obtain ⟨⟨v0, v1⟩, -⟩ := cells2f P1
    have BB := hideR (bthen (B2 _ _) b1)
    clear b1 P0 P1
    go_wp2_with fail
    refine (unhideR CP _ (unhideR BB)).mono ?_
    rintro e w2 ⟨rfl, b2⟩
    clear CP
    go_wp2_with fail
    go_ret
    exact ⟨by simp, bthen (unhideR BB) b2⟩
end Go.Proofs.YtamefbpdnblbdaaGreatDoor.F

namespace Go.Proofs.YtamefbpdnblbdaaGreatDoor.F
open Go.RowKit Go.Proofs.YtamefbpdnblbdaaGreatDoor.T Go.Proofs.YtamefbpdnblbdaaGreatDoor.R
set_option linter.unusedVariables false
set_option linter.unusedSimpArgs false

theorem seq_congr {f g : PF} : ∀ (ps : List PT), (∀ x ∈ ps, ∀ m l, f m l x = g m l x) → ∀ m l, seqM f ps m l = seqM g ps m l := by
  intro ps
  induction ps with
  | nil => intro _ m l; rfl
  | cons p ps ih =>
    intro h m l
    unfold seqM
    rw [h p (List.mem_cons_self ..), ih (fun x hx => h x (List.mem_cons_of_mem _ hx))]
theorem each_congr {f g : PF} : ∀ (ps : List PT), (∀ x ∈ ps, ∀ m l, f m l x = g m l x) → ∀ m a, eachM f ps m a = eachM g ps m a := by
  intro ps
  induction ps with
  | nil => intro _ m a; rfl
  | cons p ps ih =>
    intro h m a
    unfold eachM
    rw [h p (List.mem_cons_self ..), ih (fun x hx => h x (List.mem_cons_of_mem _ hx))]
theorem only_congr {f g : PF} (p : PT) (h : ∀ x ∈ psP p, ∀ m l, f m l x = g m l x) (m : Mk) : onlyM f p m = onlyM g p m := by
  unfold onlyM
  split
  · rename_i x e
    rw [h x (by rw [e]; simp)]
  · rfl
theorem way_congr (ns : List (List Int)) {f g : PF} (p : PT) (h : ∀ x ∈ psP p, ∀ m l, f m l x = g m l x) (m : Mk) (l : List SY) : wayM ns f m l p = wayM ns g m l p := by
  have ha : ∀ n m, altsM f p n m = altsM g p n m := fun n m => by
    unfold altsM
    rw [each_congr _ h, only_congr p h]
  unfold wayM
  rw [seq_congr _ h]
  unfold anewM
  simp only [ha]
theorem part_fuel (ns : List (List Int)) : ∀ (n k : Nat) (d : Int) (p : PT), smP n p → smP k p → ∀ m l, partM ns n d m l p = partM ns k d m l p := by
  intro n
  induction n with
  | zero => intro k d p h; exact h.elim
  | succ n ih =>
    intro k d p h h2 m l
    cases k with
    | zero => exact h2.elim
    | succ k =>
      unfold partM
      split
      · rfl
      · exact way_congr ns p (fun x hx m l => ih k (d + 1) x (h.2.2.2 x hx) (h2.2.2.2 x hx) m l) _ _
theorem ruleA_fuel (ns : List (List Int)) (n k : Nat) (p : PT) (h : smP n p) (h2 : smP k p) (m : Mk) : ruleA ns n p m = ruleA ns k p m := by
  have hc : ∀ x ∈ psP p, ∀ m l, partM ns n 0 m l x = partM ns k 0 m l x := by
    intro x hx m l
    cases n with
    | zero => exact h.elim
    | succ n =>
      cases k with
      | zero => exact h2.elim
      | succ k =>
        exact part_fuel ns _ _ 0 x (smP_up n (n + 1) (Nat.le_succ n) x (h.2.2.2 x hx)) (smP_up k (k + 1) (Nat.le_succ k) x (h2.2.2.2 x hx)) m l
  unfold ruleA
  rw [each_congr _ hc, part_fuel ns n k 0 p h h2]
theorem rules_fuel (ns : List (List Int)) (n k : Nat) : ∀ (l : List RU) (i : Nat) (m : Mk), (∀ u ∈ l, smP n u.2.2.1 ∧ smP k u.2.2.1) → rulesM ns n l i m = rulesM ns k l i m := by
  intro l
  induction l with
  | nil => intro i m _; rfl
  | cons u l ih =>
    intro i m h
    have h1 := h u (List.mem_cons_self ..)
    unfold rulesM
    rw [ruleA_fuel ns n k _ h1.1 h1.2, ih _ _ (fun x hx => h x (List.mem_cons_of_mem _ hx))]
theorem flat_fuel (n k : Nat) (f : List (List Int) × List RU) (h : ∀ u ∈ f.2, smP n u.2.2.1 ∧ smP k u.2.2.1) : flatL n f = flatL k f := by
  unfold flatL flatM
  rw [rules_fuel _ n k _ _ _ h]
def smB : Nat → PT → Bool
  | 0, _ => false
  | n + 1, p => decide ((txP p).length ≤ 1000000) && (decide ((rgP p).length ≤ 1000000) && (decide ((psP p).length ≤ 1000000) && (psP p).all (smB n)))
theorem smB_yes : ∀ (n : Nat) (p : PT), smB n p = true → smP n p := by
  intro n
  induction n with
  | zero => intro p h; cases h
  | succ n ih =>
    intro p h
    unfold smB at h
    simp only [Bool.and_eq_true, decide_eq_true_eq, List.all_eq_true] at h
    exact ⟨h.1, h.2.1, h.2.2.1, fun x hx => ih x (h.2.2.2 x hx)⟩
structure FOK (n : Nat) (f : List (List Int) × List RU) : Prop where
  keys : f.1.length ≤ 1000000
  rules : f.2.length ≤ 1000000
  nots : ∀ u ∈ f.2, u.2.2.2.1.length ≤ 1000000
  parts : ∀ u ∈ f.2, smP n u.2.2.1
def fokB (n : Nat) (f : List (List Int) × List RU) : Bool := decide (f.1.length ≤ 1000000) && (decide (f.2.length ≤ 1000000) && (f.2.all (fun u => decide (u.2.2.2.1.length ≤ 1000000)) && f.2.all (fun u => smB n u.2.2.1)))
theorem fok_yes {n : Nat} {f : List (List Int) × List RU} (h : fokB n f = true) : FOK n f := by
  unfold fokB at h
  simp only [Bool.and_eq_true, decide_eq_true_eq, List.all_eq_true] at h
  exact ⟨h.1, h.2.1, fun u hu => h.2.2.1 u hu, fun u hu => smB_yes _ _ (h.2.2.2 u hu)⟩
theorem of_file {D : Nat → Prop} {w : World} {v : Value} {f : List (List Int) × List RU} (n : Nat) (h : FileV D w v f) (hD : ∀ g, D g → g < w.heap.size) (hf : FOK n f) :
    Calls Tryz.prog 11 #[v] w fun e w' => OfR w (flatL n f) e w' ∧ Below w.heap.size w w' := by
  obtain ⟨aK, cK, aR, cR, rfl, hK, cs, hl, h5, hc⟩ := h
  obtain ⟨k, hk⟩ := rules_n hD _ _ hc
  have hN := Nat.le_max_left n k
  have e : flatL n f = flatL (max n k) f := flat_fuel _ _ _ (fun u hu => ⟨hf.parts u hu, smP_up n _ hN _ (hf.parts u hu)⟩)
  rw [e]
  obtain ⟨K, L⟩ := f
  refine of_at (max n k) aK cK aR cR K L hK ⟨rfl, hf.rules, ⟨h5.1, h5.2.1⟩, cs, h5.kept (fun g hg => ⟨hD g hg, rfl⟩), RuC.mono (fun u q hq => hq.up (Nat.le_max_right n k)) _ _ hk⟩ hD hf.keys hf.nots (fun u hu => smP_up n _ hN _ (hf.parts u hu))
theorem drop_get {α : Type} {l : List α} {j : Nat} {p q : α} {t : List α} (hd : l.drop j = q :: t) (hj : l[j]? = some p) : q = p := by
  have h : (l.drop j)[0]? = l[j]? := by rw [List.getElem?_drop]; rfl
  rw [hd, hj] at h
  injection h
theorem prod_get {D : Nat → Prop} {w : World} {a : Option Addr} {len cap : Nat} {cs : List Value} {l : List PRD} (hr : RowT 39 D w a len cap cs) (hp : PrC D w l cs) {j : Nat} {p : PRD} (hj : l[j]? = some p) : ∃ g off x0 k0 x2 k2, a = some ⟨g, off, none⟩ ∧ g < w.heap.size ∧ w.cell? ⟨g, off + 3 * j, none⟩ = some (.slice x0 p.1.length k0) ∧ w.cell? ⟨g, off + 3 * j + 1, none⟩ = some (.int .i64 p.2.1) ∧ w.cell? ⟨g, off + 3 * j + 2, none⟩ = some (.slice x2 p.2.2.length k2) ∧ AltV D w (.slice x0 p.1.length k0) p.1 ∧ NotV w (.slice x2 p.2.2.length k2) p.2.2 := by
  obtain ⟨g, off, x0, n0, k0, x2, n2, k2, q, h1, h2, h3, h4, h5, ha, hn, hd, hm⟩ := prods_at hr hp j (List.getElem?_eq_some_iff.1 hj).1
  obtain rfl := drop_get hd hj
  obtain ⟨xa, xc, xs, e0, -⟩ := id ha
  obtain ⟨ya, yc, e2, -⟩ := id hn
  injection e0 with e01 e02 e03
  injection e2 with e21 e22 e23
  subst e02; subst e22
  exact ⟨g, off, x0, k0, x2, k2, h1, h2, h3, h4, h5, ha, hn⟩
theorem alt_get {D : Nat → Prop} {w : World} {a : Option Addr} {c : Nat} {A : List (List SY)} (h : AltV D w (.slice a A.length c) A) {j : Nat} {l : List SY} (hj : A[j]? = some l) : ∃ g off x cc, a = some ⟨g, off, none⟩ ∧ g < w.heap.size ∧ w.cell? ⟨g, off + j, none⟩ = some (.slice x l.length cc) ∧ SymsV D w (.slice x l.length cc) l := by
  obtain ⟨g, off, x, cc, q, h1, h2, h3, hd, hs⟩ := h.at j (List.getElem?_eq_some_iff.1 hj).1
  obtain rfl := drop_get hd hj
  exact ⟨g, off, x, cc, h1, h2, h3, hs⟩
theorem sym_get {D : Nat → Prop} {w : World} {x : Option Addr} {cc n : Nat} {l : List SY} (h : SymsV D w (.slice x n cc) l) {j : Nat} {s : SY} (hj : l[j]? = some s) : ∃ g off a c, x = some ⟨g, off, none⟩ ∧ g < w.heap.size ∧ w.cell? ⟨g, off + 3 * j, none⟩ = some (.int .i64 s.1) ∧ w.cell? ⟨g, off + 3 * j + 1, none⟩ = some (.slice a s.2.1.length c) ∧ w.cell? ⟨g, off + 3 * j + 2, none⟩ = some (.int .i64 s.2.2) ∧ Rs w a s.2.1.length c s.2.1 := by
  obtain ⟨g, off, q, a, c, h1, h2, h3, h4, h5, hr, -, hd, -⟩ := syms_at h j (List.getElem?_eq_some_iff.1 hj).1
  obtain rfl := drop_get hd hj
  exact ⟨g, off, a, c, h1, h2, h3, h4, h5, hr⟩
end Go.Proofs.YtamefbpdnblbdaaGreatDoor.F

namespace Go.Proofs.YtamefbpdnblbdaaGreatDoor.F
open Go.RowKit Go.Proofs.YtamefbpdnblbdaaGreatDoor.T Go.Proofs.YtamefbpdnblbdaaGreatDoor.R
set_option linter.unusedVariables false
set_option linter.unusedSimpArgs false

def aw8 : List Int := [97, 32, 61, 32, 34, 120, 34, 42, 59]
def aw8f : List (List Int) × List RU := ([], [([97], 0, mk 6 [] [] [mk 1 [120] [] [] 4] 4, [], 0)])
def aw8g : GR := ([([[(2, [], 1)]], 0, []), ([[(0, [(120, 120)], 0), (2, [], 1)], []], 0, [])], [])
set_option maxRecDepth 100000 in
theorem aw8_file : fileL aw8 = .inr aw8f := by kernel_rfl
set_option maxRecDepth 100000 in
theorem aw8_flat : flatL 4 aw8f = .inr aw8g := by kernel_rfl
theorem aw8_fok : fokB 4 aw8f = true := by kernel_rfl
theorem aw8_may : gramB aw8g.1 = true := by kernel_rfl
end Go.Proofs.YtamefbpdnblbdaaGreatDoor.F

namespace Go.Proofs.YtamefbpdnblbdaaGreatDoor.F
open Go.RowKit Go.Proofs.YtamefbpdnblbdaaGreatDoor.T Go.Proofs.YtamefbpdnblbdaaGreatDoor.R
set_option linter.unusedVariables false
set_option linter.unusedSimpArgs false

theorem aw8_bytes : U.isBytes aw8 := by
  intro z hz
  simp [aw8] at hz
  omega
theorem file_is {w : World} {l : List Int} {e : Ending} {w' : World} {f : List (List Int) × List RU} (h : FileR w l e w') (hf : fileL l = .inr f) : ∃ v, e = .returned (.tuple #[v, .int .i64 (l.length : Nat), .int .i64 0]) ∧ FileV (New w w') w' v f := by
  rcases h with ⟨q, why, ea, -⟩ | ⟨v, f', ea, e, fv⟩
  · rw [hf] at ea; cases ea
  · rw [hf] at ea; injection ea with ea; subst ea; exact ⟨v, e, fv⟩
theorem of_is {w : World} {r : Sum (Int × Int) GR} {e : Ending} {w' : World} {g : GR} (h : OfR w r e w') (hf : r = .inr g) : ∃ v, e = .returned (.tuple #[v, .int .i64 0, .int .i64 0]) ∧ GramV (New w w') w' v g := by
  rcases h with ⟨q, why, ea, -⟩ | ⟨g', v, ea, e, gv⟩
  · rw [hf] at ea; cases ea
  · rw [hf] at ea; injection ea with ea; subst ea; exact ⟨v, e, gv⟩
set_option maxRecDepth 20000 in
set_option maxHeartbeats 8000000 in
theorem awake8_l (w : World) : Calls Tryz.prog 9 #[] w fun e w' => e = .returned (.bool true) ∧ Below w.heap.size w w' := by
  have CF := hideR (fun W => file_any ⟨#[97, 32, 61, 32, 34, 120, 34, 42, 59]⟩ aw8 (St.of aw8_bytes) (by show 9 ≤ 100000000; omega) W)
  go_enter Tryz.func9, Tryz.ntmps9
  go_wp2_with fail
  refine (unhideR CF _).mono ?_
  clear CF
  rintro e w1 ⟨fr, b1⟩
  obtain ⟨v1, rfl, fv⟩ := file_is fr aw8_file
  have CO := hideR (fun W (bW : Below w1.heap.size w1 W) => of_file 4 (w := W) (D := New w w1) (fv.kept (fun g hg => ⟨hg, bW.block g hg.2⟩) (KR.of bW)) (fun g hg => Nat.lt_of_lt_of_le hg.2 bW.size) (fok_yes aw8_fok))
  obtain ⟨aK, cK, aR, cR, rfl, -⟩ := fv
  have el : ((aw8.length : Nat) : Int) = 9 := rfl
  have n0 : aw8f.1.length = 0 := rfl
  have n1 : aw8f.2.length = 1 := rfl
  rw [n0, n1] at CO ⊢
  rw [el]
  clear fr n0 n1 el
  have HB1 := hideR b1
  have s1 := b1.size
  clear b1
  go_wp2_with fail
  refine (unhideR CO _ (Below.new1 _)).mono ?_
  clear CO
  rintro e w2 ⟨or, b2⟩
  obtain ⟨v2, rfl, gv⟩ := of_is or aw8_flat
  have B2 : Below w1.heap.size w1 w2 := bthen (Below.new1 _) b2
  have HB2 := hideR (bthen (unhideR HB1) B2)
  have hD : ∀ g, New (w1.alloc (.cells #[.slice aK 0 cK, .slice aR 1 cR] 26)) w2 g → g < w2.heap.size := fun g hg => hg.2
  have hsm : ∀ p ∈ aw8g.1, p.1.length ≤ 1000000 := fun p hp => by
    have : p.1.length ≤ 2 := by
      simp [aw8g] at hp
      rcases hp with rfl | rfl <;> simp
    omega
  have CM := hideR (fun W (bW : Below w2.heap.size w2 W) => fMay_l v2 aw8g W (gv.later bW hD))
  have CS := hideR (fun W (bW : Below w2.heap.size w2 W) => fSame_l v2 v2 aw8g aw8g W (gv.later bW hD) (gv.later bW hD) (fun g hg => Nat.lt_of_lt_of_le hg.2 bW.size) (fun g hg => Nat.lt_of_lt_of_le hg.2 bW.size))
  rw [aw8_may] at CM
  rw [(gramE_iff aw8g aw8g).2 rfl] at CS
  obtain ⟨a, c, cs, aK2, cK2, rfl, hr, hp, hs⟩ := gv
  have m1 : aw8g.1.length = 2 := rfl
  have m0 : aw8g.2.length = 0 := rfl
  have hc1 := hr.1
  have hc2 := hr.2.1
  rw [m1] at hr hc1
  rw [m0, m1] at CM CS ⊢
  unfold maxLen at hc2
  obtain ⟨g, off, x0, k0, x2, k2, rfl, hg, p0, p1, p2, A0, -⟩ := prod_get hr hp (j := 0) (p := ([[(2, [], 1)]], 0, [])) rfl
  obtain ⟨g', off', y0, l0, y2, l2, eg, -, q0, q1, q2, A1, -⟩ := prod_get hr hp (j := 1) (p := ([[(0, [(120, 120)], 0), (2, [], 1)], []], 0, [])) rfl
  injection eg with eg
  injection eg with e1 e2
  subst e1; subst e2
  obtain ⟨ga, oa, xa, ca, rfl, hga, r0, S0⟩ := alt_get A1 (j := 0) (l := [(0, [(120, 120)], 0), (2, [], 1)]) rfl
  obtain ⟨ga', oa', xb, cb, eg, -, r1, -⟩ := alt_get A1 (j := 1) (l := []) rfl
  injection eg with eg
  injection eg with e1 e2
  subst e1; subst e2
  obtain ⟨gs, os, aS, cS, rfl, hgs, t0, t1, t2, -⟩ := sym_get S0 (j := 1) (s := (2, [], 1)) rfl
  simp only [List.length_cons, List.length_nil, Nat.zero_add, Nat.mul_zero, Nat.add_zero, Nat.mul_one] at p0 p1 p2 q0 q1 q2 r0 r1 t0 t1 t2
  have hcA : 2 ≤ l0 ∧ l0 ≤ maxLen := by obtain ⟨_, _, e, h1, h2⟩ := A1.form; injection e with _ _ e; subst e; exact ⟨h1, h2⟩
  have hcS : 2 ≤ ca ∧ ca ≤ maxLen := by have := S0.form; exact ⟨this.2.1, this.2.2⟩
  obtain ⟨hcA1, hcA2⟩ := hcA
  obtain ⟨hcS1, hcS2⟩ := hcS
  unfold maxLen at hcA2 hcS2
  have P0 : ∀ o, (w2.alloc o).cell? ⟨g, off, none⟩ = some (.slice x0 1 k0) := fun o => ((Below.new1 o).cell hg).trans p0
  have Q0 : ∀ o, (w2.alloc o).cell? ⟨g, off + 3, none⟩ = some (.slice (some ⟨ga, oa, none⟩) 2 l0) := fun o => ((Below.new1 o).cell hg).trans q0
  have R0 : ∀ o, (w2.alloc o).cell? ⟨ga, oa, none⟩ = some (.slice (some ⟨gs, os, none⟩) 2 ca) := fun o => ((Below.new1 o).cell hga).trans r0
  have R1 : ∀ o, (w2.alloc o).cell? ⟨ga, oa + 1, none⟩ = some (.slice xb 0 cb) := fun o => ((Below.new1 o).cell hga).trans r1
  have T0 : ∀ o, (w2.alloc o).cell? ⟨gs, os + 3, none⟩ = some (.int .i64 2) := fun o => ((Below.new1 o).cell hgs).trans t0
  have T2 : ∀ o, (w2.alloc o).cell? ⟨gs, os + 3 + 2, none⟩ = some (.int .i64 1) := fun o => ((Below.new1 o).cell hgs).trans t2
  have hB2 := hideR b2
  clear hr hp hs A0 A1 S0 p0 p1 p2 q0 q1 q2 r0 r1 t0 t1 t2 or b2 B2 hD hsm m1 m0
  go_wp2_with fail
  refine (unhideR CM _ (Below.new1 _)).mono ?_
  clear CM
  rintro e w3 ⟨rfl, b3⟩
  obtain ⟨⟨z0, z1⟩, -⟩ := cells2f (kept_new b3)
  have B3 := hideR (bthen (Below.new1 _) b3)
  clear b3 P0 Q0 R0 R1 T0 T2
  go_wp2_with fail
  refine (unhideR CS _ (unhideR B3)).mono ?_
  clear CS
  rintro e w4 ⟨rfl, b4⟩
  go_wp2_with fail
  go_ret
  exact ⟨rfl, bthen (unhideR HB2) (bthen (unhideR B3) b4)⟩
end Go.Proofs.YtamefbpdnblbdaaGreatDoor.F

namespace Go.Proofs.YtamefbpdnblbdaaGreatDoor.F
open Go.RowKit Go.Proofs.YtamefbpdnblbdaaGreatDoor.T Go.Proofs.YtamefbpdnblbdaaGreatDoor.R
set_option linter.unusedVariables false
set_option linter.unusedSimpArgs false

/-! ### Why there is no file -/
def Ne {α : Type} (x : Res α) : Prop := ∀ q y, x = .inl (q, y) → y ≠ 0
theorem seqF_ne {grp : List TN → Res PT} (hg : ∀ r, Ne (grp r)) : ∀ (f : Nat) (q : Int) (acc : List PT) (r : List TN), Ne (seqF grp f q acc r) := by
  intro f
  induction f with
  | zero => intro q acc r a b h; cases h
  | succ f ih =>
    intro q acc r a b h
    unfold seqF at h
    split at h
    · cases h
    · next e1 e =>
      injection h with h; subst h
      unfold atomL at e
      split at e
      · cases e
      · split at e
        · cases e
        · split at e
          · cases e
          · split at e
            · cases e
            · split at e
              · injection e with e; exact hg r _ _ e
              · cases e
    · exact ih _ _ _ _ _ h
theorem altF_ne {grp : List TN → Res PT} (hg : ∀ r, Ne (grp r)) : ∀ (f : Nat) (p0 : PT) (acc : List PT) (r : List TN), Ne (altF grp f p0 acc r) := by
  intro f
  induction f with
  | zero => intro q acc r a b h; cases h
  | succ f ih =>
    intro q acc r a b h
    unfold altF at h
    split at h
    · split at h
      · next e1 e => injection h with h; subst h; exact seqF_ne hg _ _ _ _ _ _ e
      · exact ih _ _ _ _ _ h
    · cases h
theorem altL_ne {grp : List TN → Res PT} (hg : ∀ r, Ne (grp r)) (r : List TN) : Ne (altL grp r) := by
  intro a b h
  unfold altL at h
  split at h
  · next e1 e => injection h with h; subst h; exact seqF_ne hg _ _ _ _ _ _ e
  · exact altF_ne hg _ _ _ _ _ _ h
theorem grp_ne : ∀ d r, Ne (grpD d r) := by
  intro d
  induction d with
  | zero => intro r a b h; injection h with h; injection h with h1 h2; omega
  | succ d ih =>
    intro r a b h
    unfold grpD closeL at h
    split at h
    · next e1 e => injection h with h; subst h; exact altL_ne ih _ _ _ e
    · split at h
      · cases h
      · injection h with h; injection h with h1 h2; omega
theorem inl3 {α : Type} {p q : Nat} {y k : Int} (hk : k ≠ 0) (h : (Sum.inl (p, k) : Res α) = .inl (q, y)) : y ≠ 0 := by injection h with h; injection h with h1 h2; omega
theorem rule_ne (n : Nat) (r : List TN) : Ne (ruleL n r) := by
  intro a b h
  unfold ruleL at h
  simp only at h
  split at h
  · split at h
    · exact inl3 (by decide) h
    · split at h
      · split at h
        · next e1 e => injection h with h; subst h; exact altL_ne (grp_ne 12) _ _ _ e
        · split at h
          · next e1 e =>
            injection h with h; subst h
            unfold notL at e
            split at e
            · split at e
              · cases e
              · exact inl3 (by decide) e
            · cases e
          · split at h
            · cases h
            · exact inl3 (by decide) h
      · exact inl3 (by decide) h
  · exact inl3 (by decide) h
theorem rulesF_ne : ∀ (f : Nat) (acc : List RU) (r : List TN), Ne (rulesF f acc r) := by
  intro f
  induction f with
  | zero => intro acc r a b h; exact inl3 (by decide) h
  | succ f ih =>
    intro acc r a b h
    unfold rulesF at h
    split at h
    · cases h
    · split at h
      · next e1 e => injection h with h; subst h; exact rule_ne _ _ _ _ e
      · exact ih _ _ _ _ h
theorem keysF_ne : ∀ (f : Nat) (acc : List (List Int)) (r : List TN), Ne (keysF f acc r) := by
  intro f
  induction f with
  | zero => intro acc r a b h; exact inl3 (by decide) h
  | succ f ih =>
    intro acc r a b h
    unfold keysF at h
    split at h
    · split at h
      · exact inl3 (by decide) h
      · exact ih _ _ _ _ h
    · split at h
      · exact inl3 (by decide) h
      · split at h
        · cases h
        · exact inl3 (by decide) h
theorem file_ne {s : List Int} {q : Nat} {y : Int} (h : fileL s = .inl (q, y)) : y ≠ 0 := by
  unfold fileL at h
  split at h
  · next e1 e =>
    injection h with h; subst h
    rcases allL_err e with h | h <;> omega
  · unfold fileT at h
    split at h
    · next e1 e =>
      injection h with h; subst h
      unfold keysL at e
      split at e
      · exact keysF_ne _ _ _ _ _ e
      · cases e
    · split at h
      · next e1 e => injection h with h; subst h; exact rulesF_ne _ _ _ _ _ e
      · cases h
theorem okP_sm : ∀ (n : Nat) (lo hi : Int) (p : PT), okP n lo hi p → smP n p := by
  intro n
  induction n with
  | zero => intro lo hi p h; exact h
  | succ n ih =>
    intro lo hi p h
    obtain ⟨h1, h2, h3, h4, ht, h5, h6, h7⟩ := h
    exact ⟨h6.1, h6.2.1, h6.2.2, fun x hx => ih lo hi x (h7 x hx)⟩
theorem fl_n {len : Nat} {f : List (List Int) × List RU} (h : FlOk len f) : ∃ n, (∀ u ∈ f.2, okP n 1 ((len : Int) - 1) u.2.2.1) ∧ FOK n f := by
  obtain ⟨n, hn⟩ := all_okP (lo := 1) (hi := (len : Int) - 1) (f.2.map (fun u => u.2.2.1)) (fun x hx => by
    rw [List.mem_map] at hx
    obtain ⟨u, hu, rfl⟩ := hx
    exact (h.all u hu).2.1)
  have hn2 : ∀ u ∈ f.2, okP n 1 ((len : Int) - 1) u.2.2.1 := fun u hu => hn _ (List.mem_map.2 ⟨u, hu, rfl⟩)
  exact ⟨n, hn2, by have := h.keys; omega, by have := h.many; omega, fun u hu => may_len (h.all u hu).2.2.1, fun u hu => okP_sm _ _ _ _ (hn2 u hu)⟩
theorem of_none (W : World) : Calls Tryz.prog 11 #[.agg #[.slice none 0 0, .slice none 0 0]] W fun e w' => OfR W (.inl (0, 7)) e w' ∧ Below W.heap.size W w' :=
  of_at 0 (D := fun _ => False) none 0 none 0 [] [] ⟨rfl, Nat.le_refl _, Nat.zero_le _, fun k hk => (by cases hk), fun j k hj => (by simp at hj)⟩ ⟨rfl, Nat.zero_le _, ⟨Nat.le_refl _, Nat.zero_le _⟩, [], ⟨Nat.le_refl _, Nat.zero_le _, fun j u hu => by simp at hu⟩, rfl⟩ (fun g h => h.elim) (by simp) (fun u hu => by cases hu) (fun u hu => by cases hu)
theorem of_bad {w : World} {r : Sum (Int × Int) GR} {e : Ending} {w' : World} {q y : Int} (h : OfR w r e w') (hf : r = .inl (q, y)) : e = .returned (.tuple #[.agg #[.slice none 0 0, .slice none 0 0], .int .i64 q, .int .i64 y]) := by
  rcases h with ⟨q', y', ea, e1⟩ | ⟨g', v, ea, -⟩
  · rw [hf] at ea; injection ea with ea; injection ea with e2 e3; subst e2; subst e3; exact e1
  · rw [hf] at ea; cases ea
set_option maxRecDepth 20000 in
set_option maxHeartbeats 8000000 in
theorem flatMay_walk (a0 : ByteArray) (w : World) (w0 : a0.size ≤ maxLen) : Calls Tryz.prog 3 #[.string a0] w fun e w' => e = .returned (.bool true) ∧ Below w.heap.size w w' := by
  have CA := hideR (awake8_l w)
  unfold maxLen at w0
  obtain ⟨l, hst⟩ := st_of' a0
  have hsz := hst.size
  by_cases h0 : a0.size ≤ 1000
  · have b0 : decide (1000 < (a0.size : Int)) = false := decide_eq_false (by omega)
    have CF := hideR (fun W => file_any a0 l hst (by omega) W)
    have HB := hideR hst.2
    have HSZ := hideR hsz
    clear hst hsz
    go_enter Tryz.func3, Tryz.ntmps3
    go_wp2_with fail
    refine (unhideR CA).mono ?_
    clear CA
    rintro e w1 ⟨rfl, b1⟩
    have HB1 := hideR b1
    clear b1
    go_wp2_with fail
    refine (unhideR CF _).mono ?_
    clear CF
    rintro e w2 ⟨fr, b2⟩
    have HB2 := hideR (bthen (unhideR HB1) b2)
    rcases fr with ⟨q, why, ea, rfl⟩ | ⟨v, f, ea, rfl, fv⟩
    · have hw : (why != 0) = true := by rw [bne_iff_ne]; exact file_ne ea
      have CO := hideR (fun W => of_none W)
      clear ea b2 HB1
      go_wp2_with fail
      refine (unhideR CO _).mono ?_
      clear CO
      rintro e w3 ⟨or, b3⟩
      obtain rfl := of_bad or rfl
      obtain ⟨⟨c0, c1⟩, -⟩ := cells2f (kept_new b3)
      have HB3 := hideR (bthen (unhideR HB2) (bthen (Below.new1 _) b3))
      have s3 := b3.size
      have hlt2 := block_lt' c0
      clear or b3
      go_wp2_with fail
      go_ret
      exact ⟨by simp, bthen (unhideR HB3) (Below.new1 _)⟩
    · have hok := file_ok (unhideR HB) ea
      obtain ⟨n, hn, hfok⟩ := fl_n hok
      have CO := hideR (fun W (bW : Below w2.heap.size w2 W) => of_file n (w := W) (D := New w1 w2) (fv.kept (fun g hg => ⟨hg, bW.block g hg.2⟩) (KR.of bW)) (fun g hg => Nat.lt_of_lt_of_le hg.2 bW.size) hfok)
      have HFV := hideR fv
      have HFR := flat_ok hok hn
      have hlen : (l.length : Int) = (a0.size : Int) := by rw [unhideR HSZ]
      rw [hlen] at HFR
      obtain ⟨aK, cK, aR, cR, rfl, -⟩ := fv
      have s2 := b2.size
      clear ea b2 HB1 hok hn hfok hlen
      generalize l.length = ll at *
      have HFR := hideR HFR
      generalize hnK : f.1.length = nK at *
      generalize hnR : f.2.length = nR at *
      have HNK := hideR hnK
      have HNR := hideR hnR
      clear hnK hnR
      go_wp2_with fail
      refine (unhideR CO _ (Below.new1 _)).mono ?_
      clear CO
      rintro e w3 ⟨or, b3⟩
      have HBF := kept_new b3
      obtain ⟨⟨c0, c1⟩, -⟩ := cells2f HBF
      have HB3 := hideR (bthen (unhideR HB2) (bthen (Below.new1 _) b3))
      have HB23 := hideR (bthen (Below.new1 (w := w2) _) b3)
      have s3 := b3.size
      have hlt2 : w2.heap.size < w3.heap.size := (Array.getElem?_eq_some_iff.1 HBF).1
      rcases unhideR HFR with ⟨q, y, hf, hq, hy⟩ | ⟨g, k, hf, hg, hK, hT⟩
      · obtain rfl := of_bad or hf
        have hy0 : (y != 0) = true := by rw [bne_iff_ne]; omega
        have q1 : decide (0 < q) = true := decide_eq_true (by omega)
        have q2 : decide (q < (a0.size : Int)) = true := decide_eq_true (by omega)
        clear or b3 hf hq HFR
        rcases hy with rfl | rfl | rfl
        · go_wp2_with fail
          go_ret
          exact ⟨rfl, bthen (unhideR HB3) (Below.new1 _)⟩
        · go_wp2_with fail
          go_ret
          exact ⟨rfl, bthen (unhideR HB3) (Below.new1 _)⟩
        · go_wp2_with fail
          go_ret
          exact ⟨rfl, bthen (unhideR HB3) (Below.new1 _)⟩
      · obtain ⟨v3, rfl, gv⟩ := of_is or hf
        have hD : ∀ b, New (w2.alloc (.cells #[.slice aK nK cK, .slice aR nR cR] 26)) w3 b → b < w3.heap.size := fun b hb => hb.2
        have hpl : ∀ p ∈ g.1, p.1.length ≤ 1000000 := fun p hp => by
          unfold gramB at hg
          simp only [Bool.and_eq_true, List.all_eq_true] at hg
          have := hg.2.2 p hp
          unfold prodB fitsB at this
          simp only [Bool.and_eq_true, decide_eq_true_eq] at this
          omega
        have CM := hideR (fun W (bW : Below w3.heap.size w3 W) => fMay_l v3 g W (gv.later bW hD))
        rw [hg] at CM
        obtain ⟨a, c, cs, aK2, cK2, rfl, hr, hp, -⟩ := gv
        have hc1 := hr.1
        have hc2 := hr.2.1
        unfold maxLen at hc2
        have hgl : g.1.length = nR + k := by
          have := congrArg List.length hT
          simp at this
          rw [unhideR HNR] at this
          omega
        have hkl : g.2.length = nK := by rw [hK, unhideR HNK]
        have HP := hideR hp
        have HR := hideR hr
        have HGL := hideR hgl
        have HT := hideR hT
        rw [hkl] at CM ⊢
        clear or b3 hf hg hK hp hr hT hD hpl hkl HFR
        generalize hmn : g.1.length = mn at *
        have HMN := hideR hmn
        clear hmn
        have b1 : decide ((mn : Int) < (nR : Int)) = false := decide_eq_false (by omega)
        have hge : nR ≤ mn := by omega
        clear hgl
        have HBFx := hideR HBF
        clear HBF c0 c1
        go_wp2_with fail
        refine (unhideR CM _ (Below.new1 _)).mono ?_
        clear CM
        rintro e w4 ⟨rfl, b4⟩
        obtain ⟨⟨x0, x1⟩, -⟩ := cells2f (kept_new b4)
        have B4 := bthen (Below.new1 _) b4
        obtain ⟨⟨c0, c1⟩, -⟩ := cells2f ((B4.block _ hlt2).trans (unhideR HBFx))
        have HB4 := hideR B4
        have s4 := B4.size
        have lx := block_lt' x0
        have lc := block_lt' c0
        clear b4 B4
        go_wp2_with fail
        go_loopw [10] (fun i wr => ∃ (j : Nat), j ≤ mn ∧ i = .int .i64 (j : Int) ∧ Hid (∃ d, wr = w4.drewN d)) (fun i _ => mn - (intOf i).toNat)
        case atStart => exact ⟨0, Nat.zero_le _, rfl, ⟨0, rfl⟩⟩
        case round =>
          obtain ⟨j, hj, rfl, hw⟩ := hrel
          obtain ⟨d0, hw⟩ := unhideR hw
          have DX : ∀ p v, w4.cell? p = some v → ∀ d, (wr.drewN d).cell? p = some v := fun p v hv d => by rw [hw]; exact hv
          have X0 := DX _ _ x0
          have X1 := DX _ _ x1
          have C0 := DX _ _ c0
          have C1 := DX _ _ c1
          have X0' : wr.cell? ⟨w3.heap.size, 0, none⟩ = some (.slice a mn c) := by rw [hw]; exact x0
          by_cases hlt : j < mn
          · obtain ⟨gp, op, y0, m0, k0, y2, n2, k2, p, rfl, hgp, p0, p1, p2, -, nV, hd, -⟩ := prods_at (unhideR HR) (unhideR HP) j (by rw [unhideR HMN]; exact hlt)
            obtain ⟨an, cn, en, -⟩ := nV
            injection en with en1 en2 en3
            have hjp : (g.1.map (·.2))[j]? = some p.2 := by
              have : (g.1.drop j)[0]? = g.1[j]? := by rw [List.getElem?_drop]; rfl
              rw [hd] at this
              rw [List.getElem?_map, ← this]; rfl
            rw [unhideR HT] at hjp
            have P1 := DX _ _ (((unhideR HB4).cell hgp).trans p1)
            have P2 := DX _ _ (((unhideR HB4).cell hgp).trans p2)
            have j3 : j * 3 = 3 * j := by omega
            have HWX := hideR hw
            clear p0 p1 p2 hd hw
            by_cases hR2 : j < nR
            · obtain ⟨aK', cK', aR', cR', ev, -, csF, -, h5, hcF⟩ := unhideR HFV
              simp only [Value.agg.injEq, Array.mk.injEq, List.cons.injEq, Value.slice.injEq, and_true] at ev
              obtain ⟨⟨e1, e2, e3⟩, e4, e5, e6⟩ := ev
              subst e4; subst e6
              obtain ⟨kk, hkk⟩ := rules_n (fun b hb => hb.2) _ _ hcF
              obtain ⟨gr, or2, -, -, -, -, -, -, -, -, aN, cN, u, rfl, hgr, -, q1, -, -, -, -, -, q7, -, -, -, -, -, hdu, -⟩ := rules_at (h5.kept (fun b hb => ⟨hb.2, rfl⟩)) hkk j (by rw [unhideR HNR]; exact hR2)
              have huj : (f.2.map fun u => (u.2.1, u.2.2.2.1))[j]? = some (u.2.1, u.2.2.2.1) := by
                have : (f.2.drop j)[0]? = f.2[j]? := by rw [List.getElem?_drop]; rfl
                rw [hdu] at this
                rw [List.getElem?_map, ← this]; rfl
              rw [List.getElem?_append_left (by rw [List.length_map, unhideR HNR]; exact hR2), huj] at hjp
              injection hjp with hjp
              have hm : p.2.1 = u.2.1 := by rw [← hjp]
              have hN : p.2.2 = u.2.2.2.1 := by rw [← hjp]
              have BF := bthen (unhideR HB23) (unhideR HB4)
              have Q1 := DX _ _ ((BF.cell (p := ⟨gr, or2 + 9 * j + 1, none⟩) hgr).trans q1)
              have Q7 := DX _ _ ((BF.cell (p := ⟨gr, or2 + 9 * j + 7, none⟩) hgr).trans q7)
              clear DX
              rw [hm] at P1
              rw [en2, hN] at P2
              have j9 : j * 9 = 9 * j := by omega
              have t1 : decide ((j : Int) < (nR : Int)) = true := decide_eq_true (by omega)
              have t2 : decide ((nR : Int) ≤ (j : Int)) = false := decide_eq_false (by omega)
              have n1 : decide (j < nR) = true := decide_eq_true hR2
              have n2 : decide (nR ≤ j) = false := decide_eq_false (by omega)
              have hcR := h5.2.1
              have hcR1 := h5.1
              rw [unhideR HNR] at hcR1
              unfold maxLen at hcR
              clear q1 q7 hkk hcF hjp huj hm hN en1 en2 en3 hdu h5 e1 e2 e3 e5
              generalize u.2.1 = um at *
              generalize u.2.2.2.1.length = ul at *
              have t3 : (um != um) = false := by simp
              have t4 : ((ul : Int) != (ul : Int)) = false := by simp
              go_wp2_with fail
              go_big_quiet (fail)
              go_wp2_with fail
              go_roundw
              case rel => exact ⟨j + 1, by omega, by simp, by show ∃ d, _ = w4.drewN d; exact ⟨_, by rw [unhideR HWX, World.drewN_drewN]⟩⟩
              case measure => simp [intOf]; omega
            · rw [List.getElem?_append_right (by rw [List.length_map, unhideR HNR]; omega)] at hjp
              have hz : p.2 = (0, []) := by
                have := List.mem_of_getElem? hjp
                exact (List.mem_replicate.1 this).2
              have hm : p.2.1 = 0 := by rw [hz]
              have hN : p.2.2.length = 0 := by rw [hz]; rfl
              rw [hm] at P1
              rw [en2, hN] at P2
              have t1 : decide ((j : Int) < (nR : Int)) = false := decide_eq_false (by omega)
              have t2 : decide ((nR : Int) ≤ (j : Int)) = true := decide_eq_true (by omega)
              have n1 : decide (j < nR) = false := decide_eq_false hR2
              have n2 : decide (nR ≤ j) = true := decide_eq_true (by omega)
              clear hjp hz hm hN en1 en2 en3 DX
              go_wp2_with fail
              go_big_quiet (fail)
              go_wp2_with fail
              go_roundw
              case rel => exact ⟨j + 1, by omega, by simp, by show ∃ d, _ = w4.drewN d; exact ⟨_, by rw [unhideR HWX, World.drewN_drewN]⟩⟩
              case measure => simp [intOf]; omega
          · obtain rfl : j = mn := by omega
            have HWX := hideR hw
            clear hw DX
            go_wp2_with fail
            go_ret
            exact ⟨rfl, bthen (unhideR HB3) (bthen (unhideR HB4) (by rw [unhideR HWX]; exact draws_b))⟩
  · have b0 : decide (1000 < (a0.size : Int)) = true := decide_eq_true (by omega)
    clear h0 hst hsz
    go_enter Tryz.func3, Tryz.ntmps3
    go_wp2_with fail
    refine (unhideR CA).mono ?_
    clear CA
    rintro e w1 ⟨rfl, b1⟩
    go_wp2_with fail
    go_ret
    exact ⟨rfl, b1⟩
end Go.Proofs.YtamefbpdnblbdaaGreatDoor.F

