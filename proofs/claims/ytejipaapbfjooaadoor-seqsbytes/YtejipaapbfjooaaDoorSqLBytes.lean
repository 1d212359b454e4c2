/- The walk of the statement SeqsBytes. -/
import Derived.Test.YtejipaapbfjooaaDoorSqLBase
import Derived.Deep.QuietTactic
import Derived.BigQuiet
namespace Go.Proofs.YtejipaapbfjooaaDoor
open Go.RowKit
set_option linter.unusedVariables false
set_option linter.unusedSimpArgs false

theorem prod_take {s : List (Int × Int)} {k : Nat} {lo hi : Int} (h : s.take (k + 1) = s.take k ++ [(lo, hi)]) : Q.prodL (s.take (k + 1)) = Q.prodL (s.take k) * (hi - lo + 1) := by
  rw [h]
  generalize s.take k = t
  induction t with
  | nil => simp [Q.prodL]
  | cons p t ih => simp only [List.cons_append, Q.prodL, ih]; rw [Int.mul_assoc]
theorem prods_append (S T : List (List (Int × Int))) : Q.prods (S ++ T) = Q.prods S + Q.prods T := by
  induction S with
  | nil => simp [Q.prods]
  | cons s t ih => simp [Q.prods, ih]; omega
theorem prods_take {S : List (List (Int × Int))} {i : Nat} {s : List (Int × Int)} (h : S.take (i + 1) = S.take i ++ [s]) : Q.prods (S.take (i + 1)) = Q.prods (S.take i) + Q.prodL s := by
  rw [h, prods_append]; simp [Q.prods]
theorem asc_size_le {c d : Int} {l : List (Int × Int)} (h : Q.asc c d l) (hc : c ≤ d + 1) : 0 ≤ G.sizeL l ∧ G.sizeL l ≤ d - c + 1 := by
  induction l generalizing c with
  | nil => simp [G.sizeL]; omega
  | cons p t ih =>
    obtain ⟨h1, h2, h3, h4⟩ := h
    have := ih h4 (by omega)
    simp only [G.sizeL]; omega
theorem asc_take {c d : Int} {l : List (Int × Int)} (h : Q.asc c d l) (k : Nat) : Q.asc c d (l.take k) := by
  induction l generalizing c k with
  | nil => simp; trivial
  | cons p t ih =>
    cases k with
    | zero => simp; trivial
    | succ k => exact ⟨h.1, h.2.1, h.2.2.1, ih h.2.2.2 k⟩
theorem prods_le {N : List (Int × Int)} (hN : G.mayB N = true) (k : Nat) : 0 ≤ Q.prods ((Q.ofN N).take k) ∧ Q.prods ((Q.ofN N).take k) ≤ 1114112 := by
  unfold Q.ofN
  rw [← List.map_take, Q.prods_parts fun p hp => Q.told (N := N) (List.mem_of_mem_take hp)]
  have := asc_size_le (asc_take (Q.parts_asc hN) k) (by omega)
  omega
/-- each factor is one at least, and no more than 256 -/
def facts (s : List (Int × Int)) : Prop := ∀ r ∈ s, 0 ≤ r.1 ∧ r.1 ≤ r.2 ∧ r.2 ≤ 255
theorem of_facts {N : List (Int × Int)} {s : List (Int × Int)} (h : s ∈ Q.ofN N) : facts s ∧ 1 ≤ s.length ∧ s.length ≤ 4 := by
  obtain ⟨p, hp, rfl⟩ := List.mem_map.1 h
  exact ⟨(Q.told hp).hbyte, (Q.told hp).hlen⟩
theorem prod_bound {s : List (Int × Int)} (h : facts s) : 1 ≤ Q.prodL s ∧ Q.prodL s ≤ 256 ^ s.length := by
  induction s with
  | nil => simp [Q.prodL]
  | cons r t ih =>
    have hr := h r List.mem_cons_self
    have ih := ih fun p hp => h p (List.mem_cons_of_mem _ hp)
    simp only [Q.prodL, List.length_cons, Int.pow_succ]
    constructor
    · have := Int.mul_le_mul (show (1 : Int) ≤ r.2 - r.1 + 1 by omega) ih.1 (by omega) (by omega)
      omega
    · have := Int.mul_le_mul (show r.2 - r.1 + 1 ≤ 256 by omega) ih.2 (by omega) (by omega)
      rw [Int.mul_comm (256 ^ t.length) 256]
      exact this
theorem prod_small {s : List (Int × Int)} (h : facts s) (k : Nat) (hl : s.length ≤ 4) : 1 ≤ Q.prodL (s.take k) ∧ Q.prodL (s.take k) ≤ 4294967296 := by
  have h1 := prod_bound (s := s.take k) fun r hr => h r (List.mem_of_mem_take hr)
  have h2 : (s.take k).length ≤ 4 := by rw [List.length_take]; omega
  refine ⟨h1.1, Int.le_trans h1.2 ?_⟩
  have : (s.take k).length = 0 ∨ (s.take k).length = 1 ∨ (s.take k).length = 2 ∨ (s.take k).length = 3 ∨ (s.take k).length = 4 := by omega
  rcases this with e | e | e | e | e <;> rw [e] <;> decide
/-- as many as the set without what is no scalar -/
theorem bytes_size {L N E : List (Int × Int)} (hN : G.Is N (nrm L)) (hE : G.Is E fun n => nrm L n && !nrm [(55296, 57343)] n) : Q.prods (Q.ofN N) = G.size (nrm E) := by
  rw [Q.prods_of hN.1]
  refine G.size_congr fun n => ?_
  rw [hN.2, nrm_is hE]
  unfold U.mayB nrm G.dom
  rw [G.hasB_one]
  cases G.hasB L n
  · simp
  · rw [Bool.eq_iff_iff]
    simp only [Bool.and_eq_true, decide_eq_true_eq, Bool.not_eq_true', Bool.and_eq_false_iff, decide_eq_false_iff_not, Bool.and_true]
    omega

set_option maxRecDepth 20000 in
set_option maxHeartbeats 4000000 in
theorem seqsBytes_walk (a : Option Addr) (la ca : Nat) (L : List (Int × Int)) (w : World) (hR : Rs w a la ca L) (hW : Wd w) :
    Calls Tryd.prog 8 #[.slice a la ca] w fun e w' => e = .returned (.bool true) ∧ Below w.heap.size w w' := by
  have hm2 := hR.hmax
  have hc2 := hR.hcap
  unfold maxLen at hm2
  have AW := hideR (awake3_any w hW)
  have CO := hideR ofSq
  have CL := hideR rgLess_any
  have CS := hideR rgSize_any
  have W0 := hideR hW
  have R0 := hideR hR
  clear hW hR
  go_enter Tryd.func8, Tryd.ntmps8
  go_wp2_with fail
  refine (unhideR AW).mono ?_
  rintro e w1 ⟨rfl, b1⟩
  have R1 := hideR ((unhideR R0).later b1 (Nat.le_refl _))
  have W1 := hideR ((unhideR W0).later b1 (unhideR W0).pos)
  have B1 := hideR b1
  have s1 := b1.size
  clear W0 R0 AW b1
  by_cases hl : 20 < la
  · go_wp2_with fail
    go_ret
    exact ⟨rfl, unhideR B1⟩
  go_wp2_with fail
  refine (unhideR CO a la ca L w1 (unhideR R1) (by omega) (unhideR W1)).mono ?_
  rintro e w3 ⟨N, x, c, hi, rfl, hS, b3⟩
  have HI := hideR hi
  have S3 := hideR hS
  have hSc := hS.hcap
  have hSm := hS.hmax
  unfold maxLen at hSm
  have R3 := hideR ((unhideR R1).later b3 (Nat.le_refl _))
  have B3 := hideR ((unhideR B1).trans (b3.mono s1))
  have s3 := (unhideR B3).size
  have PB := hideR (prods_le hi.1)
  have FB : Hid (∀ s ∈ Q.ofN N, facts s ∧ 1 ≤ s.length ∧ s.length ≤ 4) := fun s hs => of_facts hs
  have EQ : Hid (∀ E, G.Is E (fun n => nrm L n && !nrm [(55296, 57343)] n) → Q.prods (Q.ofN N) = G.size (nrm E)) := fun E hE => bytes_size hi hE
  clear hi hS b3 R1 W1 B1 s1 CO HI
  generalize Q.ofN N = S at *
  obtain ⟨sl, hsl⟩ : ∃ sl, S.length = sl := ⟨_, rfl⟩
  rw [hsl] at S3 hSc
  rw [hsl]
  have HSL := hideR hsl
  clear hsl
  go_wp2_with fail
  go_loopw [5, 6] (fun v i wr => ∃ (j : Nat) (z : Int), j ≤ sl ∧ i = .int .i64 j ∧ v = .int .i64 z ∧ 0 ≤ z ∧ z ≤ 1114112 ∧ Hid (Q.prods (S.take j) = z) ∧ Below w3.heap.size w3 wr) (fun _ i _ => sl - (intOf i).toNat)
  case atStart => exact ⟨0, 0, Nat.zero_le _, rfl, rfl, by omega, by omega, rfl, Below.refl _ _⟩
  case round =>
    obtain ⟨j, z, hj, rfl, rfl, z0, z1, hf, hb⟩ := hrel
    by_cases hlt : j < sl
    · have SW := (unhideR S3).later hb (Nat.le_refl _)
      obtain ⟨b, off, x', c', s, rfl, es, -, htk, hcl, hrs⟩ := SW.at j hlt
      obtain ⟨fs, fl1, fl4⟩ := FB.out s (List.mem_of_getElem? es)
      obtain ⟨xb, xo, rfl, hrb⟩ := hrs.open (by omega)
      have st : Hid (Q.prods (S.take (j + 1)) = z + Q.prodL s) := by
        show _ = _
        rw [prods_take htk, hf.out]
      have zb := (unhideR PB) (j + 1)
      rw [st.out] at zb
      have hrc := hrs.hcap
      have hrm := hrs.hmax
      unfold maxLen at hrm
      have FS := hideR fs
      have RB := hideR hrb
      have hcl' := hideR hcl
      have q1 : (1 : Int) ≤ (s.length : Int) := by omega
      have q4 : (s.length : Int) ≤ 4 := by omega
      clear SW es htk hrs hrb fs hf
      go_wp2_with fail
      generalize hWr : wr = W4 at *
      go_loopw [7, 8] (fun v i wr => ∃ (k : Nat) (y : Int), k ≤ s.length ∧ i = .int .i64 k ∧ v = .int .i64 y ∧ 1 ≤ y ∧ y ≤ 4294967296 ∧ Hid (Q.prodL (s.take k) = y) ∧ Below W4.heap.size W4 wr) (fun _ i _ => s.length - (intOf i).toNat)
      case atStart => exact ⟨0, 1, Nat.zero_le _, rfl, rfl, by omega, by omega, rfl, Below.refl _ _⟩
      case round =>
        obtain ⟨k, y, hk, rfl, rfl, y0, y1, hfy, hbw⟩ := hrel
        have cc : wr.cell? ⟨b, off + j, none⟩ = some (.slice (some ⟨xb, xo, none⟩) s.length c') := by rw [hbw.cell (p := ⟨b, off + j, none⟩) (block_lt' (unhideR hcl'))]; exact unhideR hcl'
        by_cases hlk : k < s.length
        · obtain ⟨lo, hi, hdr, hdt, -, -, c0, c1⟩ := (unhideR RB).at k hlk
          have hfs := (unhideR FS) (lo, hi) (List.mem_of_mem_drop (by rw [hdr]; simp))
          obtain ⟨f0, f1, f2⟩ := hfs
          simp only at f0 f1 f2
          have yb := prod_small (unhideR FS) (k + 1) fl4
          have stp := prod_take hdt
          rw [hfy.out] at stp
          rw [stp] at yb
          obtain ⟨y', hy'⟩ : ∃ y', y * (hi - lo + 1) = y' := ⟨_, rfl⟩
          rw [hy'] at yb stp
          obtain ⟨yb0, yb1⟩ := yb
          have STP := hideR stp
          have d0 : wr.cell? ⟨xb, xo + k * 2, none⟩ = some (.int .i64 lo) := by rw [hbw.cell (p := ⟨xb, xo + k * 2, none⟩) (block_lt' c0)]; exact c0
          have d1 : wr.cell? ⟨xb, xo + k * 2 + 1, none⟩ = some (.int .i64 hi) := by rw [hbw.cell (p := ⟨xb, xo + k * 2 + 1, none⟩) (block_lt' c1)]; exact c1
          have cc' : ∀ d, (wr.drewN d).cell? ⟨b, off + j, none⟩ = some (.slice (some ⟨xb, xo, none⟩) s.length c') := fun d => by simpa using cc
          have d0' : ∀ d, (wr.drewN d).cell? ⟨xb, xo + k * 2, none⟩ = some (.int .i64 lo) := fun d => by simpa using d0
          have d1' : ∀ d, (wr.drewN d).cell? ⟨xb, xo + k * 2 + 1, none⟩ = some (.int .i64 hi) := fun d => by simpa using d1
          have n0 : ¬ (lo < 0) := by omega
          have n1 : ¬ (hi < lo) := by omega
          have n2 : ¬ (255 < hi) := by omega
          clear hdr hdt c0 c1 stp hfy
          go_wp2_with fail
          go_quiet (fail)
          have hbq : Below W4.heap.size W4 (wr.drewN nq) := hbw.trans draws_below'
          have cq : (wr.drewN nq).cell? ⟨b, off + j, none⟩ = some (.slice (some ⟨xb, xo, none⟩) s.length c') := cc' nq
          have dq0 := d0' nq
          have dq1 := d1' nq
          clear cc' d0' d1' cc d0 d1 hbw
          generalize wr.drewN nq = wq at *
          have cc' : ∀ d, (wq.drewN d).cell? ⟨b, off + j, none⟩ = some (.slice (some ⟨xb, xo, none⟩) s.length c') := fun d => by simpa using cq
          have d0' : ∀ d, (wq.drewN d).cell? ⟨xb, xo + k * 2, none⟩ = some (.int .i64 lo) := fun d => by simpa using dq0
          have d1' : ∀ d, (wq.drewN d).cell? ⟨xb, xo + k * 2 + 1, none⟩ = some (.int .i64 hi) := fun d => by simpa using dq1
          go_wp2_with fail
          go_quiet (fail)
          go_wp2_with fail
          exact ⟨⟨k + 1, y', by omega, by go_num, by rw [← hy'], yb0, yb1, unhideR STP, hbq.trans draws_below'⟩, by simp [intOf]; omega⟩
        · obtain rfl : k = s.length := by omega
          have fy : Q.prodL s = y := by rw [← hfy.out, List.take_length]
          rw [fy] at st zb
          clear hfy fy
          have hbn : Below w3.heap.size w3 wr := hb.trans (hbw.mono hb.size)
          go_wp2_with fail
          go_roundw
          case rel => exact ⟨j + 1, z + y, by omega, by go_num, rfl, by omega, by omega, st, hbn⟩
          case measure => simp [intOf]; omega
    · have fin : Hid (Q.prods S = z) := by
        show _ = _
        rw [← hf.out, List.take_of_length_le (by have := unhideR HSL; omega)]
      have R4 := hideR ((unhideR R3).later (hb.trans ((Below.new1 (boxRg 55296 57343)).mono hb.size)) (Nat.le_refl _))
      have BB := hideR ((unhideR B3).trans ((hb.trans ((Below.new1 (boxRg 55296 57343)).mono hb.size)).mono s3))
      have sb := (unhideR BB).size
      clear hf
      go_wp2_with fail
      refine (unhideR CL a la ca L (some ⟨wr.heap.size, 0, none⟩) 1 1 [(55296, 57343)] _ (unhideR R4) (Rs.single wr 55296 57343 (by unfold fits; omega) (by unfold fits; omega) _ rfl) (by omega) (by omega)).mono ?_
      rintro e w5 ⟨ae, le, ce, E, rfl, hE, iE, b5⟩
      have hle := is_small hE iE
      have e6 := (unhideR EQ) E iE
      rw [fin.out] at e6
      have C := hideR (unhideR CS ae le ce E w5 hE hle)
      rw [← e6] at C
      have B5 := hideR ((unhideR BB).trans (b5.mono sb))
      have s5 := (unhideR B5).size
      clear hE iE b5 e6 EQ
      go_wp2_with fail
      refine (unhideR C).mono ?_
      rintro e w6 ⟨rfl, b6⟩
      have B6 := hideR ((unhideR B5).trans (b6.mono s5))
      clear b6 C
      go_wp2_with fail
      go_ret
      exact ⟨rfl, unhideR B6⟩

end Go.Proofs.YtejipaapbfjooaaDoor
