/- Parts of the proof of FlatText that stand ahead of it (34: FlLText). -/
import Derived.Deep.QuietTactic
import Derived.BigQuiet
import Derived.Test.YtfcfcgeodghmpaaGreatDoorFlatTextM33
import Derived.Test.YtfcfcgeodghmpaaGreatDoorFlatTextM13
namespace Go.Proofs.YtfcfcgeodghmpaaGreatDoor.F
open Go.RowKit Go.Proofs.YtfcfcgeodghmpaaGreatDoor.T Go.Proofs.YtfcfcgeodghmpaaGreatDoor.R
set_option linter.unusedVariables false
set_option linter.unusedSimpArgs false

def byteS (c : Int) : SY := (0, [(c, c)], 0)
theorem textS_map : ∀ (t : List Int) (l : List SY), l.length + t.length ≤ 41 → textS t l = l ++ t.map byteS := by
  intro t
  induction t with
  | nil => intro l _; simp [textS]
  | cons c t ih =>
    intro l h
    simp at h
    unfold textS
    rw [if_neg (by omega)]
    have e : putS l (0, [(c, c)], 0) = l ++ [byteS c] := by unfold putS; rw [if_neg (by omega)]; rfl
    rw [e, ih _ (by simp; omega)]
    simp
def textF (L0 : List Int) (L1 : List (Int × Int)) : List (List Int) × List RU := ([], [([97], 0, mk 4 [] [] [mk 1 L0 [] [] 0, mk 2 [] L1 [] 0] 0, [], 0)])
def textG (L0 : List Int) (L1 : List (Int × Int)) : GR := ([([L0.map byteS ++ [(1, L1, 0)]], 0, [])], [])
theorem fk {k : Int} (h : 0 ≤ k ∧ k ≤ 100) : fits k := by unfold fits; omega
theorem text_flat (L0 : List Int) (L1 : List (Int × Int)) (h : L0.length ≤ 39) : flatL 3 (textF L0 L1) = .inr (textG L0 L1) := by
  have e : textS L0 [] = L0.map byteS := by rw [textS_map _ _ (by simp; omega)]; rfl
  have e2 : putS (L0.map byteS) (1, L1, 0) = L0.map byteS ++ [(1, L1, 0)] := by unfold putS; rw [if_neg (by simp; omega)]
  have hb : begM (textF L0 L1).2 = ⟨[([], 0, [])], 2147483647, 0, 0⟩ := rfl
  have hr : ruleA [[97]] 3 (mk 4 [] [] [mk 1 L0 [] [] 0, mk 2 [] L1 [] 0] 0) ⟨[([], 0, [])], 2147483647, 0, 0⟩ = (⟨[([], 0, [])], 2147483644, 0, 0⟩, [putS (textS L0 []) (1, L1, 0)]) := rfl
  have hf : flatM 3 (textF L0 L1).2 = ((ruleA [[97]] 3 (mk 4 [] [] [mk 1 L0 [] [] 0, mk 2 [] L1 [] 0] 0) ⟨[([], 0, [])], 2147483647, 0, 0⟩).1.fin 0 0 (ruleA [[97]] 3 (mk 4 [] [] [mk 1 L0 [] [] 0, mk 2 [] L1 [] 0] 0) ⟨[([], 0, [])], 2147483647, 0, 0⟩).2) := rfl
  unfold flatL
  rw [hf, hr, e, e2]
  have hfit : fitsB [L0.map byteS ++ [(1, L1, 0)]] = true := by
    unfold fitsB longB
    simp
    omega
  rw [fin_yes hfit]
  rfl
theorem row5_of {W : World} {g : Nat} {cs : Array Value} {t : TypeId} {fr : Nat × Nat} (hg : W.heap[g]? = some (.cells cs t fr)) (n : Nat) (hn : n ≤ maxLen) : Row5 (fun k => k < W.heap.size) W (some ⟨g, 0, none⟩) n n cs.toList :=
  ⟨Nat.le_refl _, hn, fun j u hu => ⟨g, 0, rfl, (Array.getElem?_eq_some_iff.1 hg).1, by
    rw [Nat.zero_add]
    simp only [World.cell?, hg]
    simpa using hu⟩⟩
theorem lo_rs {W : World} {a : Option Addr} {len cap : Nat} {l : List (Int × Int)} (h : Rs W a len cap l) : Lo W.heap.size a len := fun hp g off e => by
  obtain ⟨b, o, e2, h1, -⟩ := h.hcell 0 hp
  rw [e] at e2
  injection e2 with e2
  injection e2 with e3 e4
  subst e3
  exact block_lt' h1
theorem row5_nil (W : World) : Row5 (fun k => k < W.heap.size) W none 0 0 [] := ⟨Nat.le_refl _, Nat.zero_le _, fun j u hu => by simp at hu⟩
theorem lo_none (B n : Nat) : Lo B none n := fun _ g off e => by cases e
theorem leaf_b {W : World} {k : Int} {t : List Int} {R : List (Int × Int)} {a : Option Addr} {c : Nat} (hk : fits k) (ht : U.isBytes t) (hr : Rs W a R.length c R) : PartB W.heap.size 1 W (.agg #[.int .i64 k, .string (strOfNums t), .slice a R.length c, .slice none 0 0, .int .i64 0]) (mk k t R [] 0) :=
  ⟨k, t, R, [], 0, a, c, none, 0, [], rfl, rfl, hk, ht, fk ⟨by decide, by decide⟩, hr, lo_rs hr, row5_nil W, rfl⟩
theorem nil_bytes : U.isBytes [] := fun z hz => by cases hz
theorem text_rules {W : World} {gp gr : Nat} {L0 : List Int} {L1 : List (Int × Int)} {a1 : Option Addr} {c1 : Nat} (hb : U.isBytes L0) (h1 : Rs W a1 L1.length c1 L1)
    (hp : W.heap[gp]? = some (.cells #[.int .i64 1, .string (strOfNums L0), .slice none 0 0, .slice none 0 0, .int .i64 0, .int .i64 2, .string ⟨#[]⟩, .slice a1 L1.length c1, .slice none 0 0, .int .i64 0] 36))
    (hr : W.heap[gr]? = some (.cells #[.string ⟨#[97]⟩, .int .i64 0, .int .i64 4, .string ⟨#[]⟩, .slice none 0 0, .slice (some ⟨gp, 0, none⟩) 2 2, .int .i64 0, .slice none 0 0, .int .i64 0] 38)) :
    RsV W.heap.size 3 W (some ⟨gr, 0, none⟩) 1 1 (textF L0 L1).2 := by
  refine ⟨rfl, by omega, ⟨Nat.le_refl _, by unfold maxLen; omega⟩, _, row5_of hr 1 (by unfold maxLen; omega), .string ⟨#[97]⟩, .int .i64 0, .int .i64 4, .string ⟨#[]⟩, .slice none 0 0, .slice (some ⟨gp, 0, none⟩) 2 2, .int .i64 0, .slice none 0 0, .int .i64 0, [], rfl, ?_, rfl⟩
  refine ⟨.int .i64 4, .string ⟨#[]⟩, .slice none 0 0, .slice (some ⟨gp, 0, none⟩) 2 2, .int .i64 0, none, 0, rfl, by intro z hz; simp at hz; omega, fk (k := 0) ⟨by decide, by decide⟩, ?_, Rs.nil W, lo_none _ _, fk (k := 0) ⟨by decide, by decide⟩⟩
  refine ⟨4, [], [], [mk 1 L0 [] [] 0, mk 2 [] L1 [] 0], 0, none, 0, some ⟨gp, 0, none⟩, 2, _, rfl, rfl, fk (k := 4) ⟨by decide, by decide⟩, nil_bytes, fk (k := 0) ⟨by decide, by decide⟩, Rs.nil W, lo_none _ _, row5_of hp 2 (by unfold maxLen; omega), ?_⟩
  refine ⟨.int .i64 1, .string (strOfNums L0), .slice none 0 0, .slice none 0 0, .int .i64 0, [.int .i64 2, .string ⟨#[]⟩, .slice a1 L1.length c1, .slice none 0 0, .int .i64 0], rfl, PartB.up 1 2 (by omega) _ _ (leaf_b (fk (k := 1) ⟨by decide, by decide⟩) hb (Rs.nil W)), .int .i64 2, .string ⟨#[]⟩, .slice a1 L1.length c1, .slice none 0 0, .int .i64 0, [], rfl, PartB.up 1 2 (by omega) _ _ (leaf_b (fk (k := 2) ⟨by decide, by decide⟩) nil_bytes h1), rfl⟩
theorem text_small {L0 : List Int} {L1 : List (Int × Int)} (h0 : L0.length ≤ 39) (h1 : L1.length ≤ 20) : ∀ u ∈ (textF L0 L1).2, smP 3 u.2.2.1 := by
  intro u hu
  simp [textF] at hu
  subst hu
  refine ⟨by simp, by simp, by simp, fun x hx => ?_⟩
  simp at hx
  rcases hx with rfl | rfl
  · exact ⟨by simp; omega, by simp, by simp, fun y hy => by simp at hy⟩
  · exact ⟨by simp, by simp; omega, by simp, fun y hy => by simp at hy⟩
theorem of_text {W : World} {gp gr : Nat} {L0 : List Int} {L1 : List (Int × Int)} {a1 : Option Addr} {c1 : Nat} (hb : U.isBytes L0) (h1 : Rs W a1 L1.length c1 L1) (l0 : L0.length ≤ 39) (l1 : L1.length ≤ 20)
    (hp : W.heap[gp]? = some (.cells #[.int .i64 1, .string (strOfNums L0), .slice none 0 0, .slice none 0 0, .int .i64 0, .int .i64 2, .string ⟨#[]⟩, .slice a1 L1.length c1, .slice none 0 0, .int .i64 0] 36))
    (hr : W.heap[gr]? = some (.cells #[.string ⟨#[97]⟩, .int .i64 0, .int .i64 4, .string ⟨#[]⟩, .slice none 0 0, .slice (some ⟨gp, 0, none⟩) 2 2, .int .i64 0, .slice none 0 0, .int .i64 0] 38)) :
    Calls Tryz.prog 19 #[.agg #[.slice none 0 0, .slice (some ⟨gr, 0, none⟩) 1 1]] W fun e w' => OfR W (.inr (textG L0 L1)) e w' ∧ Below W.heap.size W w' := by
  rw [← text_flat L0 L1 l0]
  exact of_at 3 (D := fun _ => False) none 0 (some ⟨gr, 0, none⟩) 1 [] (textF L0 L1).2 ⟨rfl, Nat.le_refl _, Nat.zero_le _, fun k hk => (by cases hk), fun j k hj => (by simp at hj)⟩ (text_rules hb h1 hp hr) (fun g h => h.elim) (by simp) (fun u hu => by simp [textF] at hu; subst hu; simp) (text_small l0 l1)
set_option maxRecDepth 20000 in
set_option maxHeartbeats 8000000 in
theorem flatText_walk (a0 : Option Addr) (len0 cap0 : Nat) (L0 : List Int) (a1 : Option Addr) (len1 cap1 : Nat) (L1 : List (Int × Int)) (w : World) (w0 : Bs w a0 len0 cap0 L0) (n0 : a0 = Option.none → cap0 = 0) (w1 : Rs w a1 len1 cap1 L1) :
    Calls Tryz.prog 9 #[.slice a0 len0 cap0, .slice a1 len1 cap1] w fun e w' => e = .returned (.bool true) ∧ Below w.heap.size w w' := by
  have CA := hideR (awake8_l w)
  have hl0 := w0.hlen
  have hl1 := w1.hlen
  have hc0 := w0.hcap
  have hc1 := w1.hcap
  have hm0 := w0.hmax
  have hm1 := w1.hmax
  unfold maxLen at hm0 hm1
  subst hl1
  clear n0
  by_cases h0 : len0 ≤ 39
  · by_cases h1 : L1.length ≤ 20
    · have b0 : decide (39 < (len0 : Int)) = false := decide_eq_false (by omega)
      have b1 : decide (20 < (L1.length : Int)) = false := decide_eq_false (by omega)
      have HBS := hideR w0
      have HRS := hideR w1
      have HL0 := hideR hl0
      have CV := hideR (fun W (bW : Below w.heap.size w W) => (w0.later bW (Nat.le_refl _)).str)
      clear w0 w1 hl0
      generalize hS : strOfNums L0 = S at *
      have HS := hideR hS
      clear hS
      generalize hn1 : L1.length = n1 at *
      have HN1 := hideR hn1
      clear hn1
      go_enter Tryz.func9, Tryz.ntmps9
      go_wp2_with fail
      refine (unhideR CA).mono ?_
      clear CA
      rintro e w1 ⟨rfl, bb1⟩
      have cv := unhideR CV w1 bb1
      have HB1 := hideR bb1
      clear bb1 CV
      go_wp2_with fail
      have HP : (((w1.alloc (.cells #[.int .i64 1, .string S, .slice none 0 0, .slice none 0 0, .int .i64 0, .int .i64 2, .string ⟨#[]⟩, .slice a1 n1 cap1, .slice none 0 0, .int .i64 0] 36)).alloc (.cells #[.string ⟨#[97]⟩, .int .i64 0, .int .i64 4, .string ⟨#[]⟩, .slice none 0 0, .slice (some ⟨w1.heap.size, 0, none⟩) 2 2, .int .i64 0, .slice none 0 0, .int .i64 0] 38)).alloc (.cells #[.slice none 0 0, .slice (some ⟨w1.heap.size + 1, 0, none⟩) 1 1] 25)).heap[w1.heap.size]? = some (.cells #[.int .i64 1, .string S, .slice none 0 0, .slice none 0 0, .int .i64 0, .int .i64 2, .string ⟨#[]⟩, .slice a1 n1 cap1, .slice none 0 0, .int .i64 0] 36) := old_at (old_at (heap_alloc_new w1 _) _) _
      have HR : (((w1.alloc (.cells #[.int .i64 1, .string S, .slice none 0 0, .slice none 0 0, .int .i64 0, .int .i64 2, .string ⟨#[]⟩, .slice a1 n1 cap1, .slice none 0 0, .int .i64 0] 36)).alloc (.cells #[.string ⟨#[97]⟩, .int .i64 0, .int .i64 4, .string ⟨#[]⟩, .slice none 0 0, .slice (some ⟨w1.heap.size, 0, none⟩) 2 2, .int .i64 0, .slice none 0 0, .int .i64 0] 38)).alloc (.cells #[.slice none 0 0, .slice (some ⟨w1.heap.size + 1, 0, none⟩) 1 1] 25)).heap[w1.heap.size + 1]? = some (.cells #[.string ⟨#[97]⟩, .int .i64 0, .int .i64 4, .string ⟨#[]⟩, .slice none 0 0, .slice (some ⟨w1.heap.size, 0, none⟩) 2 2, .int .i64 0, .slice none 0 0, .int .i64 0] 38) := old_at (by have := heap_alloc_new (w1.alloc (.cells #[.int .i64 1, .string S, .slice none 0 0, .slice none 0 0, .int .i64 0, .int .i64 2, .string ⟨#[]⟩, .slice a1 n1 cap1, .slice none 0 0, .int .i64 0] 36)) (.cells #[.string ⟨#[97]⟩, .int .i64 0, .int .i64 4, .string ⟨#[]⟩, .slice none 0 0, .slice (some ⟨w1.heap.size, 0, none⟩) 2 2, .int .i64 0, .slice none 0 0, .int .i64 0] 38); rw [World.size_alloc] at this; exact this) _
      have BW : Below w1.heap.size w1 (((w1.alloc (.cells #[.int .i64 1, .string S, .slice none 0 0, .slice none 0 0, .int .i64 0, .int .i64 2, .string ⟨#[]⟩, .slice a1 n1 cap1, .slice none 0 0, .int .i64 0] 36)).alloc (.cells #[.string ⟨#[97]⟩, .int .i64 0, .int .i64 4, .string ⟨#[]⟩, .slice none 0 0, .slice (some ⟨w1.heap.size, 0, none⟩) 2 2, .int .i64 0, .slice none 0 0, .int .i64 0] 38)).alloc (.cells #[.slice none 0 0, .slice (some ⟨w1.heap.size + 1, 0, none⟩) 1 1] 25)) := ((Below.new1 _).alloc (by simp) _).alloc (by simp; omega) _
      generalize (((w1.alloc (.cells #[.int .i64 1, .string S, .slice none 0 0, .slice none 0 0, .int .i64 0, .int .i64 2, .string ⟨#[]⟩, .slice a1 n1 cap1, .slice none 0 0, .int .i64 0] 36)).alloc (.cells #[.string ⟨#[97]⟩, .int .i64 0, .int .i64 4, .string ⟨#[]⟩, .slice none 0 0, .slice (some ⟨w1.heap.size, 0, none⟩) 2 2, .int .i64 0, .slice none 0 0, .int .i64 0] 38)).alloc (.cells #[.slice none 0 0, .slice (some ⟨w1.heap.size + 1, 0, none⟩) 1 1] 25)) = WW at *
      have hbytes := (unhideR HBS).hbytes
      have CO := hideR (by
        have hh := unhideR HS
        have hn := unhideR HN1
        rw [← hh, ← hn] at HP
        have r2 := (((unhideR HRS).later (unhideR HB1) (Nat.le_refl _)).later BW (Nat.le_refl _))
        rw [← hn] at r2
        exact of_text hbytes r2 (by rw [unhideR HL0]; exact h0) (by rw [hn]; exact h1) HP HR)
      clear HP HR hbytes cv
      have HB2 := hideR (bthen (unhideR HB1) BW)
      clear BW HB1
      refine (unhideR CO).mono ?_
      clear CO
      rintro e w3 ⟨or, b3⟩
      obtain ⟨v3, rfl, gv⟩ := of_is or rfl
      have HB3 := hideR (bthen (unhideR HB2) b3)
      obtain ⟨a, cG, cs, aK2, cK2, rfl, hr, hp, -⟩ := gv
      have hc3 := hr.1
      have hc4 := hr.2.1
      unfold maxLen at hc4
      have e1 : (textG L0 L1).1.length = 1 := rfl
      have e2 : (textG L0 L1).2.length = 0 := rfl
      rw [e1] at hr hc3 ⊢
      rw [e2]
      obtain ⟨gp, op, x0, k0, x2, k2, rfl, hgp, p0, p1, p2, A0, -⟩ := prod_get hr hp (j := 0) (p := ([L0.map byteS ++ [(1, L1, 0)]], 0, [])) rfl
      obtain ⟨ga, oa, xa, ca, rfl, hga, r0, S0⟩ := alt_get A0 (j := 0) (l := L0.map byteS ++ [(1, L1, 0)]) rfl
      have hll : (L0.map byteS ++ [((1 : Int), L1, (0 : Int))]).length = len0 + 1 := by rw [List.length_append, List.length_map, unhideR HL0]; rfl
      obtain ⟨-, hcS1, hcS2⟩ := S0.form
      unfold maxLen at hcS2
      have hcA : 1 ≤ k0 ∧ k0 ≤ maxLen := by obtain ⟨_, _, e, h1, h2⟩ := A0.form; injection e with _ _ e; subst e; exact ⟨h1, h2⟩
      obtain ⟨hcA1, hcA2⟩ := hcA
      unfold maxLen at hcA2
      have hS0 : ∀ j s, (L0.map byteS ++ [((1 : Int), L1, (0 : Int))])[j]? = some s → _ := fun j s hj => sym_get S0 hj
      have HS0 := hideR hS0
      have HLAST : Hid ((L0.map byteS ++ [((1 : Int), L1, (0 : Int))])[len0]? = some (1, L1, 0)) := by
        show _ = _
        rw [List.getElem?_append_right (by simp [unhideR HL0])]
        simp [unhideR HL0]
      have HEACH : Hid (∀ j, j < len0 → (L0.map byteS ++ [((1 : Int), L1, (0 : Int))])[j]? = some (byteS (L0.getD j 0))) := by
        intro j hj
        have hjl : j < L0.length := by rw [unhideR HL0]; exact hj
        rw [List.getElem?_append_left (by simp [hjl]), List.getElem?_map, List.getElem?_eq_getElem hjl]
        simp [List.getD, hjl]
      simp only [List.length_cons, List.length_nil, Nat.zero_add, Nat.mul_zero, Nat.add_zero] at p0 r0
      rw [hll] at r0 hcS1
      clear or hr hp hc3 p1 p2 A0 S0 hS0 b3 hll HB2 e1 e2
      have p0' : ∀ o, (w3.alloc o).cell? ⟨gp, op, none⟩ = some (.slice (some ⟨ga, oa, none⟩) 1 k0) := fun o => ((Below.new1 o).cell hgp).trans p0
      have r0' : ∀ o, (w3.alloc o).cell? ⟨ga, oa, none⟩ = some (.slice xa (len0 + 1) ca) := fun o => ((Below.new1 o).cell hga).trans r0
      go_wp2_with fail
      have G0 : (w3.alloc (.cells #[.slice (some ⟨gp, op, none⟩) 1 cG, .slice aK2 0 cK2] 45)).heap[w3.heap.size]? = some (.cells #[.slice (some ⟨gp, op, none⟩) 1 cG, .slice aK2 0 cK2] 45) := heap_alloc_new w3 _
      have BW : Below w3.heap.size w3 (w3.alloc (.cells #[.slice (some ⟨gp, op, none⟩) 1 cG, .slice aK2 0 cK2] 45)) := Below.new1 _
      generalize w3.alloc (.cells #[.slice (some ⟨gp, op, none⟩) 1 cG, .slice aK2 0 cK2] 45) = WW at *
      have HG0 := hideR G0
      have HBW := hideR BW
      have HGP := hideR (show gp < w3.heap.size ∧ ga < w3.heap.size from ⟨hgp, hga⟩)
      have HP0 := hideR p0
      have HRR := hideR r0
      have sW := BW.size
      have hWl : w3.heap.size < WW.heap.size := (Array.getElem?_eq_some_iff.1 G0).1
      clear p0' r0' p0 r0 G0 BW hgp hga
      go_loopw [10] (fun i wr => ∃ (j : Nat), j ≤ len0 ∧ i = .int .i64 (j : Int) ∧ Hid (Below WW.heap.size WW wr) ∧ WW.heap.size ≤ wr.heap.size) (fun i _ => len0 - (intOf i).toNat)
      case atStart => exact ⟨0, Nat.zero_le _, rfl, Below.refl _ _, Nat.le_refl _⟩
      case round =>
        obtain ⟨j, hj, rfl, hB, hs⟩ := hrel
        have BB : Below w3.heap.size w3 wr := bthen (unhideR HBW) (unhideR hB)
        obtain ⟨⟨z0, z1⟩, -⟩ := cells2f (((unhideR hB).block _ hWl).trans (unhideR HG0))
        have p0 := (BB.cell (p := ⟨gp, op, none⟩) (unhideR HGP).1).trans (unhideR HP0)
        have r0 := (BB.cell (p := ⟨ga, oa, none⟩) (unhideR HGP).2).trans (unhideR HRR)
        have lgp := block_lt' p0
        have lga := block_lt' r0
        have lz := block_lt' z0
        by_cases hlt : j < len0
        · obtain ⟨gs, os, aS, cS, rfl, hgs, t0, t1, t2, rS⟩ := unhideR HS0 j _ (unhideR HEACH j hlt)
          have t0 := (BB.cell hgs).trans t0
          have t1 := (BB.cell hgs).trans t1
          have t2 := (BB.cell hgs).trans t2
          obtain ⟨b0', o0, e0, hbb⟩ := ((((unhideR HBS).later (unhideR HB3) (Nat.le_refl _))).later BB (Nat.le_refl _)).open (by omega)
          subst e0
          obtain ⟨z, hz, zl, zu, cz⟩ := bat hbb j hlt
          rw [hz] at t0 t1 t2 rS
          simp only [byteS, List.length_cons, List.length_nil, Nat.zero_add] at t0 t1 t2 rS
          obtain ⟨bS, oS, e1, y0, y1⟩ := rS.hcell 0 (by omega)
          subst e1
          simp only [List.getD_cons_zero, Nat.zero_mul, Nat.add_zero] at y0 y1
          have y0 := (BB.cell (block_lt' y0)).trans y0
          have y1 := (BB.cell (block_lt' y1)).trans y1
          have hcS1' := rS.hcap
          have hcS2' := rS.hmax
          unfold maxLen at hcS2'
          have j3 : j * 3 = 3 * j := by omega
          have ly := block_lt' y0
          have lc := block_lt' cz
          have Y0 : ∀ o d, ((wr.alloc o).drewN d).cell? ⟨bS, oS, none⟩ = some (.int .i64 z) := fun o d => ((Below.new1 o).cell ly).trans y0
          have Y1 : ∀ o d, ((wr.alloc o).drewN d).cell? ⟨bS, oS + 1, none⟩ = some (.int .i64 z) := fun o d => ((Below.new1 o).cell ly).trans y1
          have CZ : ∀ o d, ((wr.alloc o).drewN d).cell? ⟨b0', o0 + j, none⟩ = some (.int .u8 z) := fun o d => ((Below.new1 o).cell lc).trans cz
          have zz : (z != z) = false := by simp
          clear y0 y1 cz rS hbb hz
          go_wp2_with fail
          go_quiet (fail)
          go_wp2_with fail
          refine ⟨⟨j + 1, by omega, by simp, bthen (unhideR hB) (bthen (Below.new1 _) draws_b), ?_⟩, by simp [intOf]; omega⟩
          exact Nat.le_trans hs (bthen (Below.new1 _) (draws_b (k := nq))).size
        · obtain rfl : j = len0 := by omega
          obtain ⟨gs, os, aS, cS, rfl, hgs, t0, -⟩ := unhideR HS0 j _ (unhideR HLAST)
          have t0 := (BB.cell hgs).trans t0
          have j3 : j * 3 = 3 * j := by omega
          go_wp2_with fail
          go_ret
          exact ⟨rfl, bthen (unhideR HB3) BB⟩
    · have b0 : decide (39 < (len0 : Int)) = false := decide_eq_false (by omega)
      have b1 : decide (20 < (L1.length : Int)) = true := decide_eq_true (by omega)
      clear h0 h1 w0 w1 hl0
      go_enter Tryz.func9, Tryz.ntmps9
      go_wp2_with fail
      refine (unhideR CA).mono ?_
      clear CA
      rintro e w1 ⟨rfl, b1⟩
      go_wp2_with fail
      go_ret
      exact ⟨rfl, b1⟩
  · have b0 : decide (39 < (len0 : Int)) = true := decide_eq_true (by omega)
    clear h0 w0 w1 hl0
    go_enter Tryz.func9, Tryz.ntmps9
    go_wp2_with fail
    refine (unhideR CA).mono ?_
    clear CA
    rintro e w1 ⟨rfl, b1⟩
    go_wp2_with fail
    go_ret
    exact ⟨rfl, b1⟩
end Go.Proofs.YtfcfcgeodghmpaaGreatDoor.F

