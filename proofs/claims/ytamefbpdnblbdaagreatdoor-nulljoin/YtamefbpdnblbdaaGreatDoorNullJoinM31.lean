/- Parts of the proof of NullJoin that stand ahead of it (31: RdSeq, RdAlt, RdGrp, RdMarks, RdKeys, RdRule, RdRules). -/
import Derived.Test.YtamefbpdnblbdaaGreatDoorNullJoinM29
namespace Go.Proofs.YtamefbpdnblbdaaGreatDoor.R
open Go.RowKit Go.Proofs.YtamefbpdnblbdaaGreatDoor.T
set_option linter.unusedVariables false
set_option linter.unusedSimpArgs false

theorem keep_m {W V X : World} (b : Below W.heap.size W X) (e : V.heap = W.heap) {g : Nat} {o : Obj} (h : V.heap[g]? = some o) : X.heap[g]? = some o := by
  rw [e] at h
  exact (b.block g (Array.getElem?_eq_some_iff.1 h).1).trans h
theorem seqF_none {grp : List TN → Res PT} {f : Nat} {q : Int} {acc : List PT} {r : List TN} (h : atomL grp r = none) : seqF grp (f + 1) q acc r = .inr (R.theOne 4 acc q, r) := by
  unfold seqF; rw [h]
theorem seqF_bad {grp : List TN → Res PT} {f : Nat} {q : Int} {acc : List PT} {r : List TN} {e : Nat × Int} (h : atomL grp r = some (.inl e)) : seqF grp (f + 1) q acc r = .inl e := by
  unfold seqF; rw [h]
theorem seqF_one {grp : List TN → Res PT} {f : Nat} {q : Int} {acc : List PT} {r r1 : List TN} {p : PT} (h : atomL grp r = some (.inr (p, r1))) : seqF grp (f + 1) q acc r = seqF grp f q (acc ++ [(oft p r1).1]) (oft p r1).2 := by
  conv => lhs; unfold seqF
  rw [h]
theorem atom_grp {grp : List TN → Res PT} {r : List TN} (h : isS r 40 = true) : atomL grp r = some (grp r) := by
  have hk := isS_kd h
  unfold atomL
  simp [hk, h]
theorem pe_new {w3 w4 w5 : World} {v : Value} {p : PT} (h : PartE (fun g => New w3 w4 g ∨ New w4 w5 g) w5 v p) (s3 : w3.heap.size ≤ w4.heap.size) (s4 : w4.heap.size ≤ w5.heap.size) : PartE (New w3 w5) w5 v p :=
  h.kept (fun g hg => ⟨by rcases hg with h | h <;> exact ⟨by have := h.1; omega, by have := h.2; omega⟩, rfl⟩) (KR.refl _)
set_option maxRecDepth 20000 in
set_option maxHeartbeats 16000000 in
theorem seq_of {dd : Nat} (HGR : GrpC dd) : SeqC dd := by
  intro w b G r m h hr hl hm
  have hbl := h.lt
  have hGl := h.ltG
  have HB : ∀ o, Below w.heap.size w (w.alloc o) := fun o => Below.new1 o
  have CN0 := hideR (fun W (bW : Below w.heap.size w W) => next_l W b G r m (dp dd) (h.later bW) hr.ne)
  have HQ := hideR (fits_small hr.pl)
  have HGR' := hideR HGR
  have HST := hideR (And.intro h (And.intro hr hm))
  clear h hr hm HGR
  generalize hd0 : dp dd = d0 at *
  have HD0 := hideR hd0
  clear hd0
  go_enter Tryz.func131, Tryz.ntmps131
  go_wp2_with fail
  refine (unhideR CN0 _ (HB _)).mono ?_
  rintro e w1 ⟨v1, rfl, ⟨a1, c1, rfl, -, -⟩, b1⟩
  clear CN0
  have B1 := bthen (HB _) b1
  have K1 := hideR (kept_new b1)
  have hf := tok_field
  go_wp2_with fail
  clear hf
  go_loopw [4] (fun v wr => Hid (∃ (acc : List PT) (rr : List TN) (f : Nat) (cs : List Value), seqL (grpD dd) r = seqF (grpD dd) f (pl r) acc rr ∧ rr.length ≤ f ∧ acc.length + rr.length ≤ r.length ∧ RowI b G m d0 w acc rr v cs wr)) (fun _ wr => leftN b wr)
  case atStart => exact ⟨[], r, r.length, [], rfl, Nat.le_refl _, by simp, (unhideR HST).2.1, (unhideR HST).1.later B1, (unhideR HST).2.2.later B1, World.ownsRow_nil _ _ _ _, rfl, Bu.of B1, unhideR K1⟩
  case round =>
    obtain ⟨acc, rr, f, cs, hS, hff, hal, hI⟩ := unhideR hrel
    have HS := hideR hS
    have HI := hideR hI
    obtain ⟨q5, c5, rfl⟩ := own_form hI.own
    have hE := hI.he
    have hpos : 1 ≤ rr.length := by cases hq : rr with | nil => exact absurd hq hE.ne | cons x y => simp
    obtain ⟨f', rfl⟩ : ∃ f', f = f' + 1 := ⟨f - 1, by omega⟩
    have CN := hideR (fun W (bW : Below wr.heap.size wr W) => next_l W b G rr m d0 (hI.rd.later bW) hE.ne)
    have CL := hideR (fun a n c W => lookOf_l (kd rr) (strOfNums (tx rr)) a n c (pl rr : Nat) W)
    rw [lk_str] at CL
    obtain ⟨es, clock, hmm, lku⟩ := hI.mq.get (R.lk rr).1 (R.lk rr).2 hE.lk
    obtain ⟨rc, hrc, q1, -⟩ := hI.rd.cells
    have hbr := hI.rd.lt
    clear hrel hS hI hrc K1 HST
    rcases atom_fn (grp := grpD dd) (r := rr) with ⟨ef, hk⟩ | ⟨ef, hk⟩ | ⟨ef, hk⟩ | ⟨ef, hk⟩ | ⟨ef, hk⟩ | ⟨ef, hk⟩
    · rw [ef] at lku
      have e1 : (R.lk rr).1 = kd rr := rfl
      rw [e1] at lku
      have LKU := hideR lku
      clear lku e1 ef
      have ATM : Hid (atomL (grpD dd) rr = some (.inr (mk 0 (tx rr) [] [] (pl rr : Nat), rr.tail))) := by show _ = _; unfold atomL; simp [hk]
      have E1' : Ends rr.tail := hE.tail (by rw [hk]; decide)
      have hrt := tail_lt hE.ne
      have HK := hideR hk
      clear hE hk
      go_wp2_with fail
      refine wp_region_held_drew (S := (fun w' => w'.cell? ⟨b, 1, none⟩ = some (.map (some m)) ∧ w'.heap[m]? = some (.map es clock))) (by kernel_rfl) (⟨q1, hmm⟩) (fun hHeld => ?_)
      refine wpAnyH_take (i := 0) (v := ?_) rfl (by kernel_rfl) (by kernel_rfl) (by kernel_rfl) (fun _ _ _ h => h) (Or.inl ⟨by kernel_rfl, ?_⟩) (by assumption) ?_
      rotate_left
      · intro w hSw; (try dsimp only at hSw); go_simp; (try with_reducible rfl)
      try simp only [Act.put, List.getElem_toArray, List.getElem_cons_succ, List.getElem_cons_zero, List.setIfInBounds_toArray, List.set_cons_zero, List.set_cons_succ]
      refine wpAnyH_take (i := 1) (v := ?_) rfl (by kernel_rfl) (by kernel_rfl) (by kernel_rfl) (fun _ _ _ h => h) (Or.inl ⟨by kernel_rfl, ?_⟩) (by assumption) ?_
      rotate_left
      · intro w hSw; (try dsimp only at hSw); go_simp; (try with_reducible rfl)
      try simp only [Act.put, List.getElem_toArray, List.getElem_cons_succ, List.getElem_cons_zero, List.setIfInBounds_toArray, List.set_cons_zero, List.set_cons_succ]
      refine wpAnyH_take (i := 2) (v := ?_) rfl (by kernel_rfl) (by kernel_rfl) (by kernel_rfl) (fun _ _ _ h => h) (Or.inl ⟨by kernel_rfl, ?_⟩) (by assumption) ?_
      rotate_left
      · intro w hSw; (try dsimp only at hSw); go_simp; (try with_reducible rfl)
      try simp only [Act.put, List.getElem_toArray, List.getElem_cons_succ, List.getElem_cons_zero, List.setIfInBounds_toArray, List.set_cons_zero, List.set_cons_succ]
      refine wpAnyH_take (i := 3) (v := ?_) rfl (by kernel_rfl) (by kernel_rfl) (by kernel_rfl) (fun _ _ _ h => h) (Or.inl ⟨by kernel_rfl, ?_⟩) (by assumption) ?_
      rotate_left
      · intro w hSw; (try dsimp only at hSw); go_simp; (try with_reducible rfl)
      try simp only [Act.put, List.getElem_toArray, List.getElem_cons_succ, List.getElem_cons_zero, List.setIfInBounds_toArray, List.set_cons_zero, List.set_cons_succ]
      refine wpAnyH_take (i := 4) (v := ?_) rfl (by kernel_rfl) (by kernel_rfl) (by kernel_rfl) (fun _ _ _ h => h) (Or.inl ⟨by kernel_rfl, ?_⟩) (by assumption) ?_
      rotate_left
      · intro w hSw; (try dsimp only at hSw); go_simp; (try with_reducible rfl)
      try simp only [Act.put, List.getElem_toArray, List.getElem_cons_succ, List.getElem_cons_zero, List.setIfInBounds_toArray, List.set_cons_zero, List.set_cons_succ]
      refine wpAnyH_ready (rs := [5]) (by kernel_rfl) (by simp) ?_
      refine AllReadyH.cons rfl (fun K hK => ?_) AllReadyH.nil
      go_simp
      refine (unhideR CN _ draws_b).mono ?_; rintro e w2 ⟨v2, rfl, tv2, b2⟩; obtain ⟨a2, c2, rfl, -, -⟩ := tv2
      go_wp2_with fail
      refine hK.out _ _ (by obtain ⟨h0, h1⟩ := hHeld; exact ⟨keep_c b2 rfl h0, keep_m b2 rfl h1⟩) (fun hHeld => ?_)
      clear hK K
      try simp only [Act.put, List.getElem_toArray, List.getElem_cons_succ, List.getElem_cons_zero, List.setIfInBounds_toArray, List.set_cons_zero, List.set_cons_succ]
      refine wpAnyH_ready (rs := [6]) (by kernel_rfl) (by simp) ?_
      refine AllReadyH.cons rfl (fun K hK => ?_) AllReadyH.nil
      go_simp
      refine (unhideR CL _ _ _ _).mono ?_; rintro e w3 ⟨rfl, b3⟩
      go_wp2_with fail
      refine hK.out _ _ (by obtain ⟨h0, h1⟩ := hHeld; exact ⟨keep_c b3 rfl h0, keep_m b3 rfl h1⟩) (fun hHeld => ?_)
      clear hK K
      try simp only [Act.put, List.getElem_toArray, List.getElem_cons_succ, List.getElem_cons_zero, List.setIfInBounds_toArray, List.set_cons_zero, List.set_cons_succ]
      refine wpAnyH_take (i := 7) (v := ?_) rfl (by kernel_rfl) (by kernel_rfl) (by kernel_rfl) (fun _ _ _ h => h) (Or.inl ⟨by kernel_rfl, ?_⟩) (by assumption) ?_
      rotate_left
      · intro w hSw; (try dsimp only at hSw); (have hlk := unhideR LKU w hSw.2); go_simp; (try with_reducible rfl)
      try simp only [Act.put, List.getElem_toArray, List.getElem_cons_succ, List.getElem_cons_zero, List.setIfInBounds_toArray, List.set_cons_zero, List.set_cons_succ]
      refine wpAnyH_take (i := 8) (v := ?_) rfl (by kernel_rfl) (by kernel_rfl) (by kernel_rfl) (fun _ _ _ h => h) (Or.inl ⟨by kernel_rfl, ?_⟩) (by assumption) ?_
      rotate_left
      · intro w hSw; (try dsimp only at hSw); go_simp; (try with_reducible rfl)
      try simp only [Act.put, List.getElem_toArray, List.getElem_cons_succ, List.getElem_cons_zero, List.setIfInBounds_toArray, List.set_cons_zero, List.set_cons_succ]
      refine wpAnyH_take (i := 9) (v := ?_) rfl (by kernel_rfl) (by kernel_rfl) (by kernel_rfl) (fun _ _ _ h => h) (Or.inl ⟨by kernel_rfl, ?_⟩) (by assumption) ?_
      rotate_left
      · intro w hSw; (try dsimp only at hSw); go_simp; (try with_reducible rfl)
      try simp only [Act.put, List.getElem_toArray, List.getElem_cons_succ, List.getElem_cons_zero, List.setIfInBounds_toArray, List.set_cons_zero, List.set_cons_succ]
      refine wpAnyH_take (i := 10) (v := ?_) rfl (by kernel_rfl) (by kernel_rfl) (by kernel_rfl) (fun _ _ _ h => h) (Or.inl ⟨by kernel_rfl, ?_⟩) (by assumption) ?_
      rotate_left
      · intro w hSw; (try dsimp only at hSw); go_simp; (try with_reducible rfl)
      try simp only [Act.put, List.getElem_toArray, List.getElem_cons_succ, List.getElem_cons_zero, List.setIfInBounds_toArray, List.set_cons_zero, List.set_cons_succ]
      refine wpAnyH_take (i := 11) (v := ?_) rfl (by kernel_rfl) (by kernel_rfl) (by kernel_rfl) (fun _ _ _ h => h) (Or.inl ⟨by kernel_rfl, ?_⟩) (by assumption) ?_
      rotate_left
      · intro w hSw; (try dsimp only at hSw); go_simp; (try with_reducible rfl)
      try simp only [Act.put, List.getElem_toArray, List.getElem_cons_succ, List.getElem_cons_zero, List.setIfInBounds_toArray, List.set_cons_zero, List.set_cons_succ]
      refine wpAnyH_take (i := 12) (v := ?_) rfl (by kernel_rfl) (by kernel_rfl) (by kernel_rfl) (fun _ _ _ h => h) (Or.inl ⟨by kernel_rfl, ?_⟩) (by assumption) ?_
      rotate_left
      · intro w hSw; (try dsimp only at hSw); go_simp; (try with_reducible rfl)
      try simp only [Act.put, List.getElem_toArray, List.getElem_cons_succ, List.getElem_cons_zero, List.setIfInBounds_toArray, List.set_cons_zero, List.set_cons_succ]
      refine wpAnyH_done (by kernel_rfl) ?_ _
      have B3 := bthen (bthen (draws_b (k := 1) (w := wr) (B := wr.heap.size)) b2) b3
      go_wp2_with fail
      refine (call_l w3 b G rr m d0 ((unhideR HI).rd.later B3) (unhideR HI).he (by rw [unhideR HK]; decide)).mono ?_
      rintro e w4 ⟨v4, rfl, pe4, rd4, bu4⟩
      have hb3 : b < w3.heap.size := by have := B3.size; have := (unhideR HI).rd.lt; omega
      have E1 := hideR E1'
      have CO := hideR (often_l w4 b G rr.tail m d0 rd4 E1' (New w3 w4) (fun g hg => ⟨hg.2, by have := hg.1; omega⟩) v4 (mk 0 (tx rr) [] [] (pl rr : Nat)) pe4)
      have hs4 := bu4.size
      clear E1' CN CL LKU q1 hmm
      obtain ⟨z1, z2, z3, z4, z5, z6, z7, z8, z9, rfl, -⟩ := pe4.form
      clear pe4
      go_wp2_with fail
      refine (unhideR CO).mono ?_
      rintro e w5 ⟨v5, rfl, pe5, rd5, bu5⟩
      clear CO
      have hs5 := bu5.size
      have PE := hideR (pe_new pe5 hs4 hs5)
      obtain ⟨x1, x2, x3, x4, x5, x6, x7, x8, x9, rfl, -⟩ := pe5.form
      have HO := own_bu (own_bu (ownL B3 (unhideR HI).own) bu4 (by omega)) bu5 (by omega)
      have hs3 := B3.size
      have hs0 := (unhideR HI).bu.size
      have BU5 := hideR (bu4.then bu5)
      have RD5 := hideR rd5
      clear pe5 rd5 rd4 bu4 bu5
      obtain ⟨ti, hi0, hz0, hz1, hz2⟩ := info_parts part_info
      go_wp2_with (at_builtin; refine wpList_append_lies _ rfl _ _ 40 rfl (w.heap.size + 1) 42 ti _ 5 80 Tryz.underlying40 hi0 hz0 hz1 hz2 rfl (by omega) _ _ _ rfl (HO.alloc _) ⟨w5.heap.size, 0, none⟩ 1 1 [.int .i64 x1, .string x2, .slice x3 x4 x5, .slice x6 x7 x8, .int .i64 x9] rfl rfl (new_part _ _ _ _ _ _ _ rfl) (by simp [Value.oneCell']) (by omega) (by unfold maxLen; omega) (by omega) (by simp; omega) (w5.heap.size + 1) (by simp) ?_; intro gg cap1 w6 hown1 hgrow hat hlt1)
      have NI := RowI.snoc (unhideR HI) hbl hGl B3 (unhideR BU5) ((unhideR E1).oft (mk 0 (tx rr) [] [] (pl rr : Nat))) (unhideR RD5) (unhideR PE) hown1 hgrow (by rcases hat with h | h; exact .inl h; exact .inr (by simp [h]))
      have NI' := hideR NI
      clear hgrow hat hlt1 hown1 HO
      (try go_wp2_with fail)
      go_roundw
      case rel =>
        refine ⟨acc ++ [(oft (mk 0 (tx rr) [] [] (pl rr : Nat)) rr.tail).1], (oft (mk 0 (tx rr) [] [] (pl rr : Nat)) rr.tail).2, f', _, ?_, ?_, ?_, unhideR NI'⟩
        · rw [unhideR HS]; exact seqF_one (unhideR ATM)
        · have := oft_left (mk 0 (tx rr) [] [] (pl rr : Nat)) rr.tail; omega
        · have := oft_left (mk 0 (tx rr) [] [] (pl rr : Nat)) rr.tail; rw [List.length_append, List.length_singleton]; omega
      case measure =>
        rw [(unhideR NI').rd.left, (unhideR HI).rd.left]
        have := oft_left (mk 0 (tx rr) [] [] (pl rr : Nat)) rr.tail
        omega
    · rw [ef] at lku
      have e1 : (R.lk rr).1 = kd rr := rfl
      rw [e1] at lku
      have LKU := hideR lku
      clear lku e1 ef
      have ATM : Hid (atomL (grpD dd) rr = some (.inr (mk 1 (tx rr) [] [] (pl rr : Nat), rr.tail))) := by show _ = _; unfold atomL; simp [hk]
      have E1' : Ends rr.tail := hE.tail (by rw [hk]; decide)
      have hrt := tail_lt hE.ne
      have HK := hideR hk
      clear hE hk
      go_wp2_with fail
      refine wp_region_held_drew (S := (fun w' => w'.cell? ⟨b, 1, none⟩ = some (.map (some m)) ∧ w'.heap[m]? = some (.map es clock))) (by kernel_rfl) (⟨q1, hmm⟩) (fun hHeld => ?_)
      refine wpAnyH_take (i := 0) (v := ?_) rfl (by kernel_rfl) (by kernel_rfl) (by kernel_rfl) (fun _ _ _ h => h) (Or.inl ⟨by kernel_rfl, ?_⟩) (by assumption) ?_
      rotate_left
      · intro w hSw; (try dsimp only at hSw); go_simp; (try with_reducible rfl)
      try simp only [Act.put, List.getElem_toArray, List.getElem_cons_succ, List.getElem_cons_zero, List.setIfInBounds_toArray, List.set_cons_zero, List.set_cons_succ]
      refine wpAnyH_take (i := 1) (v := ?_) rfl (by kernel_rfl) (by kernel_rfl) (by kernel_rfl) (fun _ _ _ h => h) (Or.inl ⟨by kernel_rfl, ?_⟩) (by assumption) ?_
      rotate_left
      · intro w hSw; (try dsimp only at hSw); go_simp; (try with_reducible rfl)
      try simp only [Act.put, List.getElem_toArray, List.getElem_cons_succ, List.getElem_cons_zero, List.setIfInBounds_toArray, List.set_cons_zero, List.set_cons_succ]
      refine wpAnyH_take (i := 2) (v := ?_) rfl (by kernel_rfl) (by kernel_rfl) (by kernel_rfl) (fun _ _ _ h => h) (Or.inl ⟨by kernel_rfl, ?_⟩) (by assumption) ?_
      rotate_left
      · intro w hSw; (try dsimp only at hSw); go_simp; (try with_reducible rfl)
      try simp only [Act.put, List.getElem_toArray, List.getElem_cons_succ, List.getElem_cons_zero, List.setIfInBounds_toArray, List.set_cons_zero, List.set_cons_succ]
      refine wpAnyH_take (i := 3) (v := ?_) rfl (by kernel_rfl) (by kernel_rfl) (by kernel_rfl) (fun _ _ _ h => h) (Or.inl ⟨by kernel_rfl, ?_⟩) (by assumption) ?_
      rotate_left
      · intro w hSw; (try dsimp only at hSw); go_simp; (try with_reducible rfl)
      try simp only [Act.put, List.getElem_toArray, List.getElem_cons_succ, List.getElem_cons_zero, List.setIfInBounds_toArray, List.set_cons_zero, List.set_cons_succ]
      refine wpAnyH_take (i := 4) (v := ?_) rfl (by kernel_rfl) (by kernel_rfl) (by kernel_rfl) (fun _ _ _ h => h) (Or.inl ⟨by kernel_rfl, ?_⟩) (by assumption) ?_
      rotate_left
      · intro w hSw; (try dsimp only at hSw); go_simp; (try with_reducible rfl)
      try simp only [Act.put, List.getElem_toArray, List.getElem_cons_succ, List.getElem_cons_zero, List.setIfInBounds_toArray, List.set_cons_zero, List.set_cons_succ]
      refine wpAnyH_ready (rs := [5]) (by kernel_rfl) (by simp) ?_
      refine AllReadyH.cons rfl (fun K hK => ?_) AllReadyH.nil
      go_simp
      refine (unhideR CN _ draws_b).mono ?_; rintro e w2 ⟨v2, rfl, tv2, b2⟩; obtain ⟨a2, c2, rfl, -, -⟩ := tv2
      go_wp2_with fail
      refine hK.out _ _ (by obtain ⟨h0, h1⟩ := hHeld; exact ⟨keep_c b2 rfl h0, keep_m b2 rfl h1⟩) (fun hHeld => ?_)
      clear hK K
      try simp only [Act.put, List.getElem_toArray, List.getElem_cons_succ, List.getElem_cons_zero, List.setIfInBounds_toArray, List.set_cons_zero, List.set_cons_succ]
      refine wpAnyH_ready (rs := [6]) (by kernel_rfl) (by simp) ?_
      refine AllReadyH.cons rfl (fun K hK => ?_) AllReadyH.nil
      go_simp
      refine (unhideR CL _ _ _ _).mono ?_; rintro e w3 ⟨rfl, b3⟩
      go_wp2_with fail
      refine hK.out _ _ (by obtain ⟨h0, h1⟩ := hHeld; exact ⟨keep_c b3 rfl h0, keep_m b3 rfl h1⟩) (fun hHeld => ?_)
      clear hK K
      try simp only [Act.put, List.getElem_toArray, List.getElem_cons_succ, List.getElem_cons_zero, List.setIfInBounds_toArray, List.set_cons_zero, List.set_cons_succ]
      refine wpAnyH_take (i := 7) (v := ?_) rfl (by kernel_rfl) (by kernel_rfl) (by kernel_rfl) (fun _ _ _ h => h) (Or.inl ⟨by kernel_rfl, ?_⟩) (by assumption) ?_
      rotate_left
      · intro w hSw; (try dsimp only at hSw); (have hlk := unhideR LKU w hSw.2); go_simp; (try with_reducible rfl)
      try simp only [Act.put, List.getElem_toArray, List.getElem_cons_succ, List.getElem_cons_zero, List.setIfInBounds_toArray, List.set_cons_zero, List.set_cons_succ]
      refine wpAnyH_take (i := 8) (v := ?_) rfl (by kernel_rfl) (by kernel_rfl) (by kernel_rfl) (fun _ _ _ h => h) (Or.inl ⟨by kernel_rfl, ?_⟩) (by assumption) ?_
      rotate_left
      · intro w hSw; (try dsimp only at hSw); go_simp; (try with_reducible rfl)
      try simp only [Act.put, List.getElem_toArray, List.getElem_cons_succ, List.getElem_cons_zero, List.setIfInBounds_toArray, List.set_cons_zero, List.set_cons_succ]
      refine wpAnyH_take (i := 9) (v := ?_) rfl (by kernel_rfl) (by kernel_rfl) (by kernel_rfl) (fun _ _ _ h => h) (Or.inl ⟨by kernel_rfl, ?_⟩) (by assumption) ?_
      rotate_left
      · intro w hSw; (try dsimp only at hSw); go_simp; (try with_reducible rfl)
      try simp only [Act.put, List.getElem_toArray, List.getElem_cons_succ, List.getElem_cons_zero, List.setIfInBounds_toArray, List.set_cons_zero, List.set_cons_succ]
      refine wpAnyH_take (i := 10) (v := ?_) rfl (by kernel_rfl) (by kernel_rfl) (by kernel_rfl) (fun _ _ _ h => h) (Or.inl ⟨by kernel_rfl, ?_⟩) (by assumption) ?_
      rotate_left
      · intro w hSw; (try dsimp only at hSw); go_simp; (try with_reducible rfl)
      try simp only [Act.put, List.getElem_toArray, List.getElem_cons_succ, List.getElem_cons_zero, List.setIfInBounds_toArray, List.set_cons_zero, List.set_cons_succ]
      refine wpAnyH_take (i := 11) (v := ?_) rfl (by kernel_rfl) (by kernel_rfl) (by kernel_rfl) (fun _ _ _ h => h) (Or.inl ⟨by kernel_rfl, ?_⟩) (by assumption) ?_
      rotate_left
      · intro w hSw; (try dsimp only at hSw); go_simp; (try with_reducible rfl)
      try simp only [Act.put, List.getElem_toArray, List.getElem_cons_succ, List.getElem_cons_zero, List.setIfInBounds_toArray, List.set_cons_zero, List.set_cons_succ]
      refine wpAnyH_take (i := 12) (v := ?_) rfl (by kernel_rfl) (by kernel_rfl) (by kernel_rfl) (fun _ _ _ h => h) (Or.inl ⟨by kernel_rfl, ?_⟩) (by assumption) ?_
      rotate_left
      · intro w hSw; (try dsimp only at hSw); go_simp; (try with_reducible rfl)
      try simp only [Act.put, List.getElem_toArray, List.getElem_cons_succ, List.getElem_cons_zero, List.setIfInBounds_toArray, List.set_cons_zero, List.set_cons_succ]
      refine wpAnyH_done (by kernel_rfl) ?_ _
      have B3 := bthen (bthen (draws_b (k := 1) (w := wr) (B := wr.heap.size)) b2) b3
      go_wp2_with fail
      refine (text_l w3 b G rr m d0 ((unhideR HI).rd.later B3) (unhideR HI).he (by rw [unhideR HK]; decide)).mono ?_
      rintro e w4 ⟨v4, rfl, pe4, rd4, bu4⟩
      have hb3 : b < w3.heap.size := by have := B3.size; have := (unhideR HI).rd.lt; omega
      have E1 := hideR E1'
      have CO := hideR (often_l w4 b G rr.tail m d0 rd4 E1' (New w3 w4) (fun g hg => ⟨hg.2, by have := hg.1; omega⟩) v4 (mk 1 (tx rr) [] [] (pl rr : Nat)) pe4)
      have hs4 := bu4.size
      clear E1' CN CL LKU q1 hmm
      obtain ⟨z1, z2, z3, z4, z5, z6, z7, z8, z9, rfl, -⟩ := pe4.form
      clear pe4
      go_wp2_with fail
      refine (unhideR CO).mono ?_
      rintro e w5 ⟨v5, rfl, pe5, rd5, bu5⟩
      clear CO
      have hs5 := bu5.size
      have PE := hideR (pe_new pe5 hs4 hs5)
      obtain ⟨x1, x2, x3, x4, x5, x6, x7, x8, x9, rfl, -⟩ := pe5.form
      have HO := own_bu (own_bu (ownL B3 (unhideR HI).own) bu4 (by omega)) bu5 (by omega)
      have hs3 := B3.size
      have hs0 := (unhideR HI).bu.size
      have BU5 := hideR (bu4.then bu5)
      have RD5 := hideR rd5
      clear pe5 rd5 rd4 bu4 bu5
      obtain ⟨ti, hi0, hz0, hz1, hz2⟩ := info_parts part_info
      go_wp2_with (at_builtin; refine wpList_append_lies _ rfl _ _ 40 rfl (w.heap.size + 1) 42 ti _ 5 80 Tryz.underlying40 hi0 hz0 hz1 hz2 rfl (by omega) _ _ _ rfl (HO.alloc _) ⟨w5.heap.size, 0, none⟩ 1 1 [.int .i64 x1, .string x2, .slice x3 x4 x5, .slice x6 x7 x8, .int .i64 x9] rfl rfl (new_part _ _ _ _ _ _ _ rfl) (by simp [Value.oneCell']) (by omega) (by unfold maxLen; omega) (by omega) (by simp; omega) (w5.heap.size + 1) (by simp) ?_; intro gg cap1 w6 hown1 hgrow hat hlt1)
      have NI := RowI.snoc (unhideR HI) hbl hGl B3 (unhideR BU5) ((unhideR E1).oft (mk 1 (tx rr) [] [] (pl rr : Nat))) (unhideR RD5) (unhideR PE) hown1 hgrow (by rcases hat with h | h; exact .inl h; exact .inr (by simp [h]))
      have NI' := hideR NI
      clear hgrow hat hlt1 hown1 HO
      (try go_wp2_with fail)
      go_roundw
      case rel =>
        refine ⟨acc ++ [(oft (mk 1 (tx rr) [] [] (pl rr : Nat)) rr.tail).1], (oft (mk 1 (tx rr) [] [] (pl rr : Nat)) rr.tail).2, f', _, ?_, ?_, ?_, unhideR NI'⟩
        · rw [unhideR HS]; exact seqF_one (unhideR ATM)
        · have := oft_left (mk 1 (tx rr) [] [] (pl rr : Nat)) rr.tail; omega
        · have := oft_left (mk 1 (tx rr) [] [] (pl rr : Nat)) rr.tail; rw [List.length_append, List.length_singleton]; omega
      case measure =>
        rw [(unhideR NI').rd.left, (unhideR HI).rd.left]
        have := oft_left (mk 1 (tx rr) [] [] (pl rr : Nat)) rr.tail
        omega
    · rw [ef] at lku
      have e1 : (R.lk rr).1 = kd rr := rfl
      rw [e1] at lku
      have LKU := hideR lku
      clear lku e1 ef
      have ATM : Hid (atomL (grpD dd) rr = some (.inr (mk 2 [] (rg rr) [] (pl rr : Nat), rr.tail))) := by show _ = _; unfold atomL; simp [hk]
      have E1' : Ends rr.tail := hE.tail (by rw [hk]; decide)
      have hrt := tail_lt hE.ne
      have HK := hideR hk
      clear hE hk
      go_wp2_with fail
      refine wp_region_held_drew (S := (fun w' => w'.cell? ⟨b, 1, none⟩ = some (.map (some m)) ∧ w'.heap[m]? = some (.map es clock))) (by kernel_rfl) (⟨q1, hmm⟩) (fun hHeld => ?_)
      refine wpAnyH_take (i := 0) (v := ?_) rfl (by kernel_rfl) (by kernel_rfl) (by kernel_rfl) (fun _ _ _ h => h) (Or.inl ⟨by kernel_rfl, ?_⟩) (by assumption) ?_
      rotate_left
      · intro w hSw; (try dsimp only at hSw); go_simp; (try with_reducible rfl)
      try simp only [Act.put, List.getElem_toArray, List.getElem_cons_succ, List.getElem_cons_zero, List.setIfInBounds_toArray, List.set_cons_zero, List.set_cons_succ]
      refine wpAnyH_take (i := 1) (v := ?_) rfl (by kernel_rfl) (by kernel_rfl) (by kernel_rfl) (fun _ _ _ h => h) (Or.inl ⟨by kernel_rfl, ?_⟩) (by assumption) ?_
      rotate_left
      · intro w hSw; (try dsimp only at hSw); go_simp; (try with_reducible rfl)
      try simp only [Act.put, List.getElem_toArray, List.getElem_cons_succ, List.getElem_cons_zero, List.setIfInBounds_toArray, List.set_cons_zero, List.set_cons_succ]
      refine wpAnyH_take (i := 2) (v := ?_) rfl (by kernel_rfl) (by kernel_rfl) (by kernel_rfl) (fun _ _ _ h => h) (Or.inl ⟨by kernel_rfl, ?_⟩) (by assumption) ?_
      rotate_left
      · intro w hSw; (try dsimp only at hSw); go_simp; (try with_reducible rfl)
      try simp only [Act.put, List.getElem_toArray, List.getElem_cons_succ, List.getElem_cons_zero, List.setIfInBounds_toArray, List.set_cons_zero, List.set_cons_succ]
      refine wpAnyH_take (i := 3) (v := ?_) rfl (by kernel_rfl) (by kernel_rfl) (by kernel_rfl) (fun _ _ _ h => h) (Or.inl ⟨by kernel_rfl, ?_⟩) (by assumption) ?_
      rotate_left
      · intro w hSw; (try dsimp only at hSw); go_simp; (try with_reducible rfl)
      try simp only [Act.put, List.getElem_toArray, List.getElem_cons_succ, List.getElem_cons_zero, List.setIfInBounds_toArray, List.set_cons_zero, List.set_cons_succ]
      refine wpAnyH_take (i := 4) (v := ?_) rfl (by kernel_rfl) (by kernel_rfl) (by kernel_rfl) (fun _ _ _ h => h) (Or.inl ⟨by kernel_rfl, ?_⟩) (by assumption) ?_
      rotate_left
      · intro w hSw; (try dsimp only at hSw); go_simp; (try with_reducible rfl)
      try simp only [Act.put, List.getElem_toArray, List.getElem_cons_succ, List.getElem_cons_zero, List.setIfInBounds_toArray, List.set_cons_zero, List.set_cons_succ]
      refine wpAnyH_ready (rs := [5]) (by kernel_rfl) (by simp) ?_
      refine AllReadyH.cons rfl (fun K hK => ?_) AllReadyH.nil
      go_simp
      refine (unhideR CN _ draws_b).mono ?_; rintro e w2 ⟨v2, rfl, tv2, b2⟩; obtain ⟨a2, c2, rfl, -, -⟩ := tv2
      go_wp2_with fail
      refine hK.out _ _ (by obtain ⟨h0, h1⟩ := hHeld; exact ⟨keep_c b2 rfl h0, keep_m b2 rfl h1⟩) (fun hHeld => ?_)
      clear hK K
      try simp only [Act.put, List.getElem_toArray, List.getElem_cons_succ, List.getElem_cons_zero, List.setIfInBounds_toArray, List.set_cons_zero, List.set_cons_succ]
      refine wpAnyH_ready (rs := [6]) (by kernel_rfl) (by simp) ?_
      refine AllReadyH.cons rfl (fun K hK => ?_) AllReadyH.nil
      go_simp
      refine (unhideR CL _ _ _ _).mono ?_; rintro e w3 ⟨rfl, b3⟩
      go_wp2_with fail
      refine hK.out _ _ (by obtain ⟨h0, h1⟩ := hHeld; exact ⟨keep_c b3 rfl h0, keep_m b3 rfl h1⟩) (fun hHeld => ?_)
      clear hK K
      try simp only [Act.put, List.getElem_toArray, List.getElem_cons_succ, List.getElem_cons_zero, List.setIfInBounds_toArray, List.set_cons_zero, List.set_cons_succ]
      refine wpAnyH_take (i := 7) (v := ?_) rfl (by kernel_rfl) (by kernel_rfl) (by kernel_rfl) (fun _ _ _ h => h) (Or.inl ⟨by kernel_rfl, ?_⟩) (by assumption) ?_
      rotate_left
      · intro w hSw; (try dsimp only at hSw); (have hlk := unhideR LKU w hSw.2); go_simp; (try with_reducible rfl)
      try simp only [Act.put, List.getElem_toArray, List.getElem_cons_succ, List.getElem_cons_zero, List.setIfInBounds_toArray, List.set_cons_zero, List.set_cons_succ]
      refine wpAnyH_take (i := 8) (v := ?_) rfl (by kernel_rfl) (by kernel_rfl) (by kernel_rfl) (fun _ _ _ h => h) (Or.inl ⟨by kernel_rfl, ?_⟩) (by assumption) ?_
      rotate_left
      · intro w hSw; (try dsimp only at hSw); go_simp; (try with_reducible rfl)
      try simp only [Act.put, List.getElem_toArray, List.getElem_cons_succ, List.getElem_cons_zero, List.setIfInBounds_toArray, List.set_cons_zero, List.set_cons_succ]
      refine wpAnyH_take (i := 9) (v := ?_) rfl (by kernel_rfl) (by kernel_rfl) (by kernel_rfl) (fun _ _ _ h => h) (Or.inl ⟨by kernel_rfl, ?_⟩) (by assumption) ?_
      rotate_left
      · intro w hSw; (try dsimp only at hSw); go_simp; (try with_reducible rfl)
      try simp only [Act.put, List.getElem_toArray, List.getElem_cons_succ, List.getElem_cons_zero, List.setIfInBounds_toArray, List.set_cons_zero, List.set_cons_succ]
      refine wpAnyH_take (i := 10) (v := ?_) rfl (by kernel_rfl) (by kernel_rfl) (by kernel_rfl) (fun _ _ _ h => h) (Or.inl ⟨by kernel_rfl, ?_⟩) (by assumption) ?_
      rotate_left
      · intro w hSw; (try dsimp only at hSw); go_simp; (try with_reducible rfl)
      try simp only [Act.put, List.getElem_toArray, List.getElem_cons_succ, List.getElem_cons_zero, List.setIfInBounds_toArray, List.set_cons_zero, List.set_cons_succ]
      refine wpAnyH_take (i := 11) (v := ?_) rfl (by kernel_rfl) (by kernel_rfl) (by kernel_rfl) (fun _ _ _ h => h) (Or.inl ⟨by kernel_rfl, ?_⟩) (by assumption) ?_
      rotate_left
      · intro w hSw; (try dsimp only at hSw); go_simp; (try with_reducible rfl)
      try simp only [Act.put, List.getElem_toArray, List.getElem_cons_succ, List.getElem_cons_zero, List.setIfInBounds_toArray, List.set_cons_zero, List.set_cons_succ]
      refine wpAnyH_take (i := 12) (v := ?_) rfl (by kernel_rfl) (by kernel_rfl) (by kernel_rfl) (fun _ _ _ h => h) (Or.inl ⟨by kernel_rfl, ?_⟩) (by assumption) ?_
      rotate_left
      · intro w hSw; (try dsimp only at hSw); go_simp; (try with_reducible rfl)
      try simp only [Act.put, List.getElem_toArray, List.getElem_cons_succ, List.getElem_cons_zero, List.setIfInBounds_toArray, List.set_cons_zero, List.set_cons_succ]
      refine wpAnyH_done (by kernel_rfl) ?_ _
      have B3 := bthen (bthen (draws_b (k := 1) (w := wr) (B := wr.heap.size)) b2) b3
      go_wp2_with fail
      refine (set_l w3 b G rr m d0 ((unhideR HI).rd.later B3) (unhideR HI).he (by rw [unhideR HK]; decide)).mono ?_
      rintro e w4 ⟨v4, rfl, pe4, rd4, bu4⟩
      have hb3 : b < w3.heap.size := by have := B3.size; have := (unhideR HI).rd.lt; omega
      have E1 := hideR E1'
      have CO := hideR (often_l w4 b G rr.tail m d0 rd4 E1' (New w3 w4) (fun g hg => ⟨hg.2, by have := hg.1; omega⟩) v4 (mk 2 [] (rg rr) [] (pl rr : Nat)) pe4)
      have hs4 := bu4.size
      clear E1' CN CL LKU q1 hmm
      obtain ⟨z1, z2, z3, z4, z5, z6, z7, z8, z9, rfl, -⟩ := pe4.form
      clear pe4
      go_wp2_with fail
      refine (unhideR CO).mono ?_
      rintro e w5 ⟨v5, rfl, pe5, rd5, bu5⟩
      clear CO
      have hs5 := bu5.size
      have PE := hideR (pe_new pe5 hs4 hs5)
      obtain ⟨x1, x2, x3, x4, x5, x6, x7, x8, x9, rfl, -⟩ := pe5.form
      have HO := own_bu (own_bu (ownL B3 (unhideR HI).own) bu4 (by omega)) bu5 (by omega)
      have hs3 := B3.size
      have hs0 := (unhideR HI).bu.size
      have BU5 := hideR (bu4.then bu5)
      have RD5 := hideR rd5
      clear pe5 rd5 rd4 bu4 bu5
      obtain ⟨ti, hi0, hz0, hz1, hz2⟩ := info_parts part_info
      go_wp2_with (at_builtin; refine wpList_append_lies _ rfl _ _ 40 rfl (w.heap.size + 1) 42 ti _ 5 80 Tryz.underlying40 hi0 hz0 hz1 hz2 rfl (by omega) _ _ _ rfl (HO.alloc _) ⟨w5.heap.size, 0, none⟩ 1 1 [.int .i64 x1, .string x2, .slice x3 x4 x5, .slice x6 x7 x8, .int .i64 x9] rfl rfl (new_part _ _ _ _ _ _ _ rfl) (by simp [Value.oneCell']) (by omega) (by unfold maxLen; omega) (by omega) (by simp; omega) (w5.heap.size + 1) (by simp) ?_; intro gg cap1 w6 hown1 hgrow hat hlt1)
      have NI := RowI.snoc (unhideR HI) hbl hGl B3 (unhideR BU5) ((unhideR E1).oft (mk 2 [] (rg rr) [] (pl rr : Nat))) (unhideR RD5) (unhideR PE) hown1 hgrow (by rcases hat with h | h; exact .inl h; exact .inr (by simp [h]))
      have NI' := hideR NI
      clear hgrow hat hlt1 hown1 HO
      (try go_wp2_with fail)
      go_roundw
      case rel =>
        refine ⟨acc ++ [(oft (mk 2 [] (rg rr) [] (pl rr : Nat)) rr.tail).1], (oft (mk 2 [] (rg rr) [] (pl rr : Nat)) rr.tail).2, f', _, ?_, ?_, ?_, unhideR NI'⟩
        · rw [unhideR HS]; exact seqF_one (unhideR ATM)
        · have := oft_left (mk 2 [] (rg rr) [] (pl rr : Nat)) rr.tail; omega
        · have := oft_left (mk 2 [] (rg rr) [] (pl rr : Nat)) rr.tail; rw [List.length_append, List.length_singleton]; omega
      case measure =>
        rw [(unhideR NI').rd.left, (unhideR HI).rd.left]
        have := oft_left (mk 2 [] (rg rr) [] (pl rr : Nat)) rr.tail
        omega
    · rw [ef] at lku
      have e1 : (R.lk rr).1 = kd rr := rfl
      rw [e1] at lku
      have LKU := hideR lku
      clear lku e1 ef
      have ATM : Hid (atomL (grpD dd) rr = some (.inr (mk 3 [] (rg rr) [] (pl rr : Nat), rr.tail))) := by show _ = _; unfold atomL; simp [hk]
      have E1' : Ends rr.tail := hE.tail (by rw [hk]; decide)
      have hrt := tail_lt hE.ne
      have HK := hideR hk
      clear hE hk
      go_wp2_with fail
      refine wp_region_held_drew (S := (fun w' => w'.cell? ⟨b, 1, none⟩ = some (.map (some m)) ∧ w'.heap[m]? = some (.map es clock))) (by kernel_rfl) (⟨q1, hmm⟩) (fun hHeld => ?_)
      refine wpAnyH_take (i := 0) (v := ?_) rfl (by kernel_rfl) (by kernel_rfl) (by kernel_rfl) (fun _ _ _ h => h) (Or.inl ⟨by kernel_rfl, ?_⟩) (by assumption) ?_
      rotate_left
      · intro w hSw; (try dsimp only at hSw); go_simp; (try with_reducible rfl)
      try simp only [Act.put, List.getElem_toArray, List.getElem_cons_succ, List.getElem_cons_zero, List.setIfInBounds_toArray, List.set_cons_zero, List.set_cons_succ]
      refine wpAnyH_take (i := 1) (v := ?_) rfl (by kernel_rfl) (by kernel_rfl) (by kernel_rfl) (fun _ _ _ h => h) (Or.inl ⟨by kernel_rfl, ?_⟩) (by assumption) ?_
      rotate_left
      · intro w hSw; (try dsimp only at hSw); go_simp; (try with_reducible rfl)
      try simp only [Act.put, List.getElem_toArray, List.getElem_cons_succ, List.getElem_cons_zero, List.setIfInBounds_toArray, List.set_cons_zero, List.set_cons_succ]
      refine wpAnyH_take (i := 2) (v := ?_) rfl (by kernel_rfl) (by kernel_rfl) (by kernel_rfl) (fun _ _ _ h => h) (Or.inl ⟨by kernel_rfl, ?_⟩) (by assumption) ?_
      rotate_left
      · intro w hSw; (try dsimp only at hSw); go_simp; (try with_reducible rfl)
      try simp only [Act.put, List.getElem_toArray, List.getElem_cons_succ, List.getElem_cons_zero, List.setIfInBounds_toArray, List.set_cons_zero, List.set_cons_succ]
      refine wpAnyH_take (i := 3) (v := ?_) rfl (by kernel_rfl) (by kernel_rfl) (by kernel_rfl) (fun _ _ _ h => h) (Or.inl ⟨by kernel_rfl, ?_⟩) (by assumption) ?_
      rotate_left
      · intro w hSw; (try dsimp only at hSw); go_simp; (try with_reducible rfl)
      try simp only [Act.put, List.getElem_toArray, List.getElem_cons_succ, List.getElem_cons_zero, List.setIfInBounds_toArray, List.set_cons_zero, List.set_cons_succ]
      refine wpAnyH_take (i := 4) (v := ?_) rfl (by kernel_rfl) (by kernel_rfl) (by kernel_rfl) (fun _ _ _ h => h) (Or.inl ⟨by kernel_rfl, ?_⟩) (by assumption) ?_
      rotate_left
      · intro w hSw; (try dsimp only at hSw); go_simp; (try with_reducible rfl)
      try simp only [Act.put, List.getElem_toArray, List.getElem_cons_succ, List.getElem_cons_zero, List.setIfInBounds_toArray, List.set_cons_zero, List.set_cons_succ]
      refine wpAnyH_ready (rs := [5]) (by kernel_rfl) (by simp) ?_
      refine AllReadyH.cons rfl (fun K hK => ?_) AllReadyH.nil
      go_simp
      refine (unhideR CN _ draws_b).mono ?_; rintro e w2 ⟨v2, rfl, tv2, b2⟩; obtain ⟨a2, c2, rfl, -, -⟩ := tv2
      go_wp2_with fail
      refine hK.out _ _ (by obtain ⟨h0, h1⟩ := hHeld; exact ⟨keep_c b2 rfl h0, keep_m b2 rfl h1⟩) (fun hHeld => ?_)
      clear hK K
      try simp only [Act.put, List.getElem_toArray, List.getElem_cons_succ, List.getElem_cons_zero, List.setIfInBounds_toArray, List.set_cons_zero, List.set_cons_succ]
      refine wpAnyH_ready (rs := [6]) (by kernel_rfl) (by simp) ?_
      refine AllReadyH.cons rfl (fun K hK => ?_) AllReadyH.nil
      go_simp
      refine (unhideR CL _ _ _ _).mono ?_; rintro e w3 ⟨rfl, b3⟩
      go_wp2_with fail
      refine hK.out _ _ (by obtain ⟨h0, h1⟩ := hHeld; exact ⟨keep_c b3 rfl h0, keep_m b3 rfl h1⟩) (fun hHeld => ?_)
      clear hK K
      try simp only [Act.put, List.getElem_toArray, List.getElem_cons_succ, List.getElem_cons_zero, List.setIfInBounds_toArray, List.set_cons_zero, List.set_cons_succ]
      refine wpAnyH_take (i := 7) (v := ?_) rfl (by kernel_rfl) (by kernel_rfl) (by kernel_rfl) (fun _ _ _ h => h) (Or.inl ⟨by kernel_rfl, ?_⟩) (by assumption) ?_
      rotate_left
      · intro w hSw; (try dsimp only at hSw); (have hlk := unhideR LKU w hSw.2); go_simp; (try with_reducible rfl)
      try simp only [Act.put, List.getElem_toArray, List.getElem_cons_succ, List.getElem_cons_zero, List.setIfInBounds_toArray, List.set_cons_zero, List.set_cons_succ]
      refine wpAnyH_take (i := 8) (v := ?_) rfl (by kernel_rfl) (by kernel_rfl) (by kernel_rfl) (fun _ _ _ h => h) (Or.inl ⟨by kernel_rfl, ?_⟩) (by assumption) ?_
      rotate_left
      · intro w hSw; (try dsimp only at hSw); go_simp; (try with_reducible rfl)
      try simp only [Act.put, List.getElem_toArray, List.getElem_cons_succ, List.getElem_cons_zero, List.setIfInBounds_toArray, List.set_cons_zero, List.set_cons_succ]
      refine wpAnyH_take (i := 9) (v := ?_) rfl (by kernel_rfl) (by kernel_rfl) (by kernel_rfl) (fun _ _ _ h => h) (Or.inl ⟨by kernel_rfl, ?_⟩) (by assumption) ?_
      rotate_left
      · intro w hSw; (try dsimp only at hSw); go_simp; (try with_reducible rfl)
      try simp only [Act.put, List.getElem_toArray, List.getElem_cons_succ, List.getElem_cons_zero, List.setIfInBounds_toArray, List.set_cons_zero, List.set_cons_succ]
      refine wpAnyH_take (i := 10) (v := ?_) rfl (by kernel_rfl) (by kernel_rfl) (by kernel_rfl) (fun _ _ _ h => h) (Or.inl ⟨by kernel_rfl, ?_⟩) (by assumption) ?_
      rotate_left
      · intro w hSw; (try dsimp only at hSw); go_simp; (try with_reducible rfl)
      try simp only [Act.put, List.getElem_toArray, List.getElem_cons_succ, List.getElem_cons_zero, List.setIfInBounds_toArray, List.set_cons_zero, List.set_cons_succ]
      refine wpAnyH_take (i := 11) (v := ?_) rfl (by kernel_rfl) (by kernel_rfl) (by kernel_rfl) (fun _ _ _ h => h) (Or.inl ⟨by kernel_rfl, ?_⟩) (by assumption) ?_
      rotate_left
      · intro w hSw; (try dsimp only at hSw); go_simp; (try with_reducible rfl)
      try simp only [Act.put, List.getElem_toArray, List.getElem_cons_succ, List.getElem_cons_zero, List.setIfInBounds_toArray, List.set_cons_zero, List.set_cons_succ]
      refine wpAnyH_take (i := 12) (v := ?_) rfl (by kernel_rfl) (by kernel_rfl) (by kernel_rfl) (fun _ _ _ h => h) (Or.inl ⟨by kernel_rfl, ?_⟩) (by assumption) ?_
      rotate_left
      · intro w hSw; (try dsimp only at hSw); go_simp; (try with_reducible rfl)
      try simp only [Act.put, List.getElem_toArray, List.getElem_cons_succ, List.getElem_cons_zero, List.setIfInBounds_toArray, List.set_cons_zero, List.set_cons_succ]
      refine wpAnyH_done (by kernel_rfl) ?_ _
      have B3 := bthen (bthen (draws_b (k := 1) (w := wr) (B := wr.heap.size)) b2) b3
      go_wp2_with fail
      refine (octets_l w3 b G rr m d0 ((unhideR HI).rd.later B3) (unhideR HI).he (by rw [unhideR HK]; decide)).mono ?_
      rintro e w4 ⟨v4, rfl, pe4, rd4, bu4⟩
      have hb3 : b < w3.heap.size := by have := B3.size; have := (unhideR HI).rd.lt; omega
      have E1 := hideR E1'
      have CO := hideR (often_l w4 b G rr.tail m d0 rd4 E1' (New w3 w4) (fun g hg => ⟨hg.2, by have := hg.1; omega⟩) v4 (mk 3 [] (rg rr) [] (pl rr : Nat)) pe4)
      have hs4 := bu4.size
      clear E1' CN CL LKU q1 hmm
      obtain ⟨z1, z2, z3, z4, z5, z6, z7, z8, z9, rfl, -⟩ := pe4.form
      clear pe4
      go_wp2_with fail
      refine (unhideR CO).mono ?_
      rintro e w5 ⟨v5, rfl, pe5, rd5, bu5⟩
      clear CO
      have hs5 := bu5.size
      have PE := hideR (pe_new pe5 hs4 hs5)
      obtain ⟨x1, x2, x3, x4, x5, x6, x7, x8, x9, rfl, -⟩ := pe5.form
      have HO := own_bu (own_bu (ownL B3 (unhideR HI).own) bu4 (by omega)) bu5 (by omega)
      have hs3 := B3.size
      have hs0 := (unhideR HI).bu.size
      have BU5 := hideR (bu4.then bu5)
      have RD5 := hideR rd5
      clear pe5 rd5 rd4 bu4 bu5
      obtain ⟨ti, hi0, hz0, hz1, hz2⟩ := info_parts part_info
      go_wp2_with (at_builtin; refine wpList_append_lies _ rfl _ _ 40 rfl (w.heap.size + 1) 42 ti _ 5 80 Tryz.underlying40 hi0 hz0 hz1 hz2 rfl (by omega) _ _ _ rfl (HO.alloc _) ⟨w5.heap.size, 0, none⟩ 1 1 [.int .i64 x1, .string x2, .slice x3 x4 x5, .slice x6 x7 x8, .int .i64 x9] rfl rfl (new_part _ _ _ _ _ _ _ rfl) (by simp [Value.oneCell']) (by omega) (by unfold maxLen; omega) (by omega) (by simp; omega) (w5.heap.size + 1) (by simp) ?_; intro gg cap1 w6 hown1 hgrow hat hlt1)
      have NI := RowI.snoc (unhideR HI) hbl hGl B3 (unhideR BU5) ((unhideR E1).oft (mk 3 [] (rg rr) [] (pl rr : Nat))) (unhideR RD5) (unhideR PE) hown1 hgrow (by rcases hat with h | h; exact .inl h; exact .inr (by simp [h]))
      have NI' := hideR NI
      clear hgrow hat hlt1 hown1 HO
      (try go_wp2_with fail)
      go_roundw
      case rel =>
        refine ⟨acc ++ [(oft (mk 3 [] (rg rr) [] (pl rr : Nat)) rr.tail).1], (oft (mk 3 [] (rg rr) [] (pl rr : Nat)) rr.tail).2, f', _, ?_, ?_, ?_, unhideR NI'⟩
        · rw [unhideR HS]; exact seqF_one (unhideR ATM)
        · have := oft_left (mk 3 [] (rg rr) [] (pl rr : Nat)) rr.tail; omega
        · have := oft_left (mk 3 [] (rg rr) [] (pl rr : Nat)) rr.tail; rw [List.length_append, List.length_singleton]; omega
      case measure =>
        rw [(unhideR NI').rd.left, (unhideR HI).rd.left]
        have := oft_left (mk 3 [] (rg rr) [] (pl rr : Nat)) rr.tail
        omega
    · rw [ef] at lku
      have e1 : (R.lk rr).1 = kd rr := rfl
      rw [e1] at lku
      have LKU := hideR lku
      clear lku e1 ef
      have CG := hideR (fun W (bW : Below wr.heap.size wr W) => unhideR HGR' W b G rr m (by rw [unhideR HD0]; exact (unhideR HI).rd.later bW) hE hk (by omega) ((unhideR HI).mq.later bW))
      rw [unhideR HD0] at CG
      have ATM := hideR (atom_grp (grp := grpD dd) hk)
      have hrt := tail_lt hE.ne
      clear hE
      go_wp2_with fail
      refine wp_region_held_drew (S := (fun w' => w'.cell? ⟨b, 1, none⟩ = some (.map (some m)) ∧ w'.heap[m]? = some (.map es clock))) (by kernel_rfl) (⟨q1, hmm⟩) (fun hHeld => ?_)
      refine wpAnyH_take (i := 0) (v := ?_) rfl (by kernel_rfl) (by kernel_rfl) (by kernel_rfl) (fun _ _ _ h => h) (Or.inl ⟨by kernel_rfl, ?_⟩) (by assumption) ?_
      rotate_left
      · intro w hSw; (try dsimp only at hSw); go_simp; (try with_reducible rfl)
      try simp only [Act.put, List.getElem_toArray, List.getElem_cons_succ, List.getElem_cons_zero, List.setIfInBounds_toArray, List.set_cons_zero, List.set_cons_succ]
      refine wpAnyH_take (i := 1) (v := ?_) rfl (by kernel_rfl) (by kernel_rfl) (by kernel_rfl) (fun _ _ _ h => h) (Or.inl ⟨by kernel_rfl, ?_⟩) (by assumption) ?_
      rotate_left
      · intro w hSw; (try dsimp only at hSw); go_simp; (try with_reducible rfl)
      try simp only [Act.put, List.getElem_toArray, List.getElem_cons_succ, List.getElem_cons_zero, List.setIfInBounds_toArray, List.set_cons_zero, List.set_cons_succ]
      refine wpAnyH_take (i := 2) (v := ?_) rfl (by kernel_rfl) (by kernel_rfl) (by kernel_rfl) (fun _ _ _ h => h) (Or.inl ⟨by kernel_rfl, ?_⟩) (by assumption) ?_
      rotate_left
      · intro w hSw; (try dsimp only at hSw); go_simp; (try with_reducible rfl)
      try simp only [Act.put, List.getElem_toArray, List.getElem_cons_succ, List.getElem_cons_zero, List.setIfInBounds_toArray, List.set_cons_zero, List.set_cons_succ]
      refine wpAnyH_take (i := 3) (v := ?_) rfl (by kernel_rfl) (by kernel_rfl) (by kernel_rfl) (fun _ _ _ h => h) (Or.inl ⟨by kernel_rfl, ?_⟩) (by assumption) ?_
      rotate_left
      · intro w hSw; (try dsimp only at hSw); go_simp; (try with_reducible rfl)
      try simp only [Act.put, List.getElem_toArray, List.getElem_cons_succ, List.getElem_cons_zero, List.setIfInBounds_toArray, List.set_cons_zero, List.set_cons_succ]
      refine wpAnyH_take (i := 4) (v := ?_) rfl (by kernel_rfl) (by kernel_rfl) (by kernel_rfl) (fun _ _ _ h => h) (Or.inl ⟨by kernel_rfl, ?_⟩) (by assumption) ?_
      rotate_left
      · intro w hSw; (try dsimp only at hSw); go_simp; (try with_reducible rfl)
      try simp only [Act.put, List.getElem_toArray, List.getElem_cons_succ, List.getElem_cons_zero, List.setIfInBounds_toArray, List.set_cons_zero, List.set_cons_succ]
      refine wpAnyH_ready (rs := [5]) (by kernel_rfl) (by simp) ?_
      refine AllReadyH.cons rfl (fun K hK => ?_) AllReadyH.nil
      go_simp
      refine (unhideR CN _ draws_b).mono ?_; rintro e w2 ⟨v2, rfl, tv2, b2⟩; obtain ⟨a2, c2, rfl, -, -⟩ := tv2
      go_wp2_with fail
      refine hK.out _ _ (by obtain ⟨h0, h1⟩ := hHeld; exact ⟨keep_c b2 rfl h0, keep_m b2 rfl h1⟩) (fun hHeld => ?_)
      clear hK K
      try simp only [Act.put, List.getElem_toArray, List.getElem_cons_succ, List.getElem_cons_zero, List.setIfInBounds_toArray, List.set_cons_zero, List.set_cons_succ]
      refine wpAnyH_ready (rs := [6]) (by kernel_rfl) (by simp) ?_
      refine AllReadyH.cons rfl (fun K hK => ?_) AllReadyH.nil
      go_simp
      refine (unhideR CL _ _ _ _).mono ?_; rintro e w3 ⟨rfl, b3⟩
      go_wp2_with fail
      refine hK.out _ _ (by obtain ⟨h0, h1⟩ := hHeld; exact ⟨keep_c b3 rfl h0, keep_m b3 rfl h1⟩) (fun hHeld => ?_)
      clear hK K
      try simp only [Act.put, List.getElem_toArray, List.getElem_cons_succ, List.getElem_cons_zero, List.setIfInBounds_toArray, List.set_cons_zero, List.set_cons_succ]
      refine wpAnyH_take (i := 7) (v := ?_) rfl (by kernel_rfl) (by kernel_rfl) (by kernel_rfl) (fun _ _ _ h => h) (Or.inl ⟨by kernel_rfl, ?_⟩) (by assumption) ?_
      rotate_left
      · intro w hSw; (try dsimp only at hSw); (have hlk := unhideR LKU w hSw.2); go_simp; (try with_reducible rfl)
      try simp only [Act.put, List.getElem_toArray, List.getElem_cons_succ, List.getElem_cons_zero, List.setIfInBounds_toArray, List.set_cons_zero, List.set_cons_succ]
      refine wpAnyH_take (i := 8) (v := ?_) rfl (by kernel_rfl) (by kernel_rfl) (by kernel_rfl) (fun _ _ _ h => h) (Or.inl ⟨by kernel_rfl, ?_⟩) (by assumption) ?_
      rotate_left
      · intro w hSw; (try dsimp only at hSw); go_simp; (try with_reducible rfl)
      try simp only [Act.put, List.getElem_toArray, List.getElem_cons_succ, List.getElem_cons_zero, List.setIfInBounds_toArray, List.set_cons_zero, List.set_cons_succ]
      refine wpAnyH_take (i := 9) (v := ?_) rfl (by kernel_rfl) (by kernel_rfl) (by kernel_rfl) (fun _ _ _ h => h) (Or.inl ⟨by kernel_rfl, ?_⟩) (by assumption) ?_
      rotate_left
      · intro w hSw; (try dsimp only at hSw); go_simp; (try with_reducible rfl)
      try simp only [Act.put, List.getElem_toArray, List.getElem_cons_succ, List.getElem_cons_zero, List.setIfInBounds_toArray, List.set_cons_zero, List.set_cons_succ]
      refine wpAnyH_take (i := 10) (v := ?_) rfl (by kernel_rfl) (by kernel_rfl) (by kernel_rfl) (fun _ _ _ h => h) (Or.inl ⟨by kernel_rfl, ?_⟩) (by assumption) ?_
      rotate_left
      · intro w hSw; (try dsimp only at hSw); go_simp; (try with_reducible rfl)
      try simp only [Act.put, List.getElem_toArray, List.getElem_cons_succ, List.getElem_cons_zero, List.setIfInBounds_toArray, List.set_cons_zero, List.set_cons_succ]
      refine wpAnyH_take (i := 11) (v := ?_) rfl (by kernel_rfl) (by kernel_rfl) (by kernel_rfl) (fun _ _ _ h => h) (Or.inl ⟨by kernel_rfl, ?_⟩) (by assumption) ?_
      rotate_left
      · intro w hSw; (try dsimp only at hSw); go_simp; (try with_reducible rfl)
      try simp only [Act.put, List.getElem_toArray, List.getElem_cons_succ, List.getElem_cons_zero, List.setIfInBounds_toArray, List.set_cons_zero, List.set_cons_succ]
      refine wpAnyH_take (i := 12) (v := ?_) rfl (by kernel_rfl) (by kernel_rfl) (by kernel_rfl) (fun _ _ _ h => h) (Or.inl ⟨by kernel_rfl, ?_⟩) (by assumption) ?_
      rotate_left
      · intro w hSw; (try dsimp only at hSw); go_simp; (try with_reducible rfl)
      try simp only [Act.put, List.getElem_toArray, List.getElem_cons_succ, List.getElem_cons_zero, List.setIfInBounds_toArray, List.set_cons_zero, List.set_cons_succ]
      refine wpAnyH_done (by kernel_rfl) ?_ _
      have B3 := bthen (bthen (draws_b (k := 1) (w := wr) (B := wr.heap.size)) b2) b3
      go_wp2_with fail
      refine (unhideR CG _ B3).mono ?_
      clear CG
      rintro e w4 (⟨v4, p4, r4, eg, rfl, pe4, E1', hl4, rd4, bu4⟩ | ⟨q4, y4, eg, rfl, bu4⟩)
      · have ATN : Hid (atomL (grpD dd) rr = some (.inr (p4, r4))) := by show _ = _; rw [unhideR ATM, eg]
        clear ATM eg
        have hb3 : b < w3.heap.size := by have := B3.size; have := (unhideR HI).rd.lt; omega
        have E1 := hideR E1'
        have CO := hideR (often_l w4 b G r4 m d0 rd4 E1' (New w3 w4) (fun g hg => ⟨hg.2, by have := hg.1; omega⟩) v4 p4 pe4)
        have hs4 := bu4.size
        clear E1' CN CL LKU q1 hmm
        obtain ⟨z1, z2, z3, z4, z5, z6, z7, z8, z9, rfl, -⟩ := pe4.form
        clear pe4
        go_wp2_with fail
        refine (unhideR CO).mono ?_
        rintro e w5 ⟨v5, rfl, pe5, rd5, bu5⟩
        clear CO
        have hs5 := bu5.size
        have PE := hideR (pe_new pe5 hs4 hs5)
        obtain ⟨x1, x2, x3, x4, x5, x6, x7, x8, x9, rfl, -⟩ := pe5.form
        have HO := own_bu (own_bu (ownL B3 (unhideR HI).own) bu4 (by omega)) bu5 (by omega)
        have hs3 := B3.size
        have hs0 := (unhideR HI).bu.size
        have BU5 := hideR (bu4.then bu5)
        have RD5 := hideR rd5
        clear pe5 rd5 rd4 bu4 bu5
        obtain ⟨ti, hi0, hz0, hz1, hz2⟩ := info_parts part_info
        go_wp2_with (at_builtin; refine wpList_append_lies _ rfl _ _ 40 rfl (w.heap.size + 1) 42 ti _ 5 80 Tryz.underlying40 hi0 hz0 hz1 hz2 rfl (by omega) _ _ _ rfl (HO.alloc _) ⟨w5.heap.size, 0, none⟩ 1 1 [.int .i64 x1, .string x2, .slice x3 x4 x5, .slice x6 x7 x8, .int .i64 x9] rfl rfl (new_part _ _ _ _ _ _ _ rfl) (by simp [Value.oneCell']) (by omega) (by unfold maxLen; omega) (by omega) (by simp; omega) (w5.heap.size + 1) (by simp) ?_; intro gg cap1 w6 hown1 hgrow hat hlt1)
        have NI := RowI.snoc (unhideR HI) hbl hGl B3 (unhideR BU5) ((unhideR E1).oft p4) (unhideR RD5) (unhideR PE) hown1 hgrow (by rcases hat with h | h; exact .inl h; exact .inr (by simp [h]))
        have NI' := hideR NI
        clear hgrow hat hlt1 hown1 HO
        (try go_wp2_with fail)
        go_roundw
        case rel =>
          refine ⟨acc ++ [(oft p4 r4).1], (oft p4 r4).2, f', _, ?_, ?_, ?_, unhideR NI'⟩
          · rw [unhideR HS]; exact seqF_one (unhideR ATN)
          · have := oft_left p4 r4; omega
          · have := oft_left p4 r4; rw [List.length_append, List.length_singleton]; omega
        case measure =>
          rw [(unhideR NI').rd.left, (unhideR HI).rd.left]
          have := oft_left p4 r4
          omega
        
      · have FIN : Hid (seqL (grpD dd) r = .inl (q4, y4)) := by show _ = _; rw [unhideR HS]; exact seqF_bad (by rw [unhideR ATM, eg])
        have BF := hideR (((unhideR HI).bu.then (Bu.of B3)).then bu4)
        clear ATM eg CN CL LKU q1 hmm
        unfold wrongE
        go_wp2_with fail
        exact ⟨rfl, .inr ⟨q4, y4, unhideR FIN, rfl, unhideR BF⟩⟩
        
    · rw [ef] at lku
      have e1 : (R.lk rr).1 = kd rr := rfl
      rw [e1] at lku
      have LKU := hideR lku
      clear lku e1 ef
      have FIN : Hid (seqL (grpD dd) r = .inr (R.theOne 4 acc (pl r : Nat), rr)) := by show _ = _; rw [unhideR HS]; exact seqF_none hk
      have CO := hideR (fun W (bW : Below wr.heap.size wr W) => theOne_l 4 (pl r : Nat) (by unfold fits; omega) (unhideR HQ) (fun g => w.heap.size < g ∧ g < W.heap.size) q5 acc.length c5 acc W (fun g hg => hg.2) ((unhideR HI).parts rfl bW))
      clear hE hk
      go_wp2_with fail
      refine wp_region_held_drew (S := (fun w' => w'.cell? ⟨b, 1, none⟩ = some (.map (some m)) ∧ w'.heap[m]? = some (.map es clock))) (by kernel_rfl) (⟨q1, hmm⟩) (fun hHeld => ?_)
      refine wpAnyH_take (i := 0) (v := ?_) rfl (by kernel_rfl) (by kernel_rfl) (by kernel_rfl) (fun _ _ _ h => h) (Or.inl ⟨by kernel_rfl, ?_⟩) (by assumption) ?_
      rotate_left
      · intro w hSw; (try dsimp only at hSw); go_simp; (try with_reducible rfl)
      try simp only [Act.put, List.getElem_toArray, List.getElem_cons_succ, List.getElem_cons_zero, List.setIfInBounds_toArray, List.set_cons_zero, List.set_cons_succ]
      refine wpAnyH_take (i := 1) (v := ?_) rfl (by kernel_rfl) (by kernel_rfl) (by kernel_rfl) (fun _ _ _ h => h) (Or.inl ⟨by kernel_rfl, ?_⟩) (by assumption) ?_
      rotate_left
      · intro w hSw; (try dsimp only at hSw); go_simp; (try with_reducible rfl)
      try simp only [Act.put, List.getElem_toArray, List.getElem_cons_succ, List.getElem_cons_zero, List.setIfInBounds_toArray, List.set_cons_zero, List.set_cons_succ]
      refine wpAnyH_take (i := 2) (v := ?_) rfl (by kernel_rfl) (by kernel_rfl) (by kernel_rfl) (fun _ _ _ h => h) (Or.inl ⟨by kernel_rfl, ?_⟩) (by assumption) ?_
      rotate_left
      · intro w hSw; (try dsimp only at hSw); go_simp; (try with_reducible rfl)
      try simp only [Act.put, List.getElem_toArray, List.getElem_cons_succ, List.getElem_cons_zero, List.setIfInBounds_toArray, List.set_cons_zero, List.set_cons_succ]
      refine wpAnyH_take (i := 3) (v := ?_) rfl (by kernel_rfl) (by kernel_rfl) (by kernel_rfl) (fun _ _ _ h => h) (Or.inl ⟨by kernel_rfl, ?_⟩) (by assumption) ?_
      rotate_left
      · intro w hSw; (try dsimp only at hSw); go_simp; (try with_reducible rfl)
      try simp only [Act.put, List.getElem_toArray, List.getElem_cons_succ, List.getElem_cons_zero, List.setIfInBounds_toArray, List.set_cons_zero, List.set_cons_succ]
      refine wpAnyH_take (i := 4) (v := ?_) rfl (by kernel_rfl) (by kernel_rfl) (by kernel_rfl) (fun _ _ _ h => h) (Or.inl ⟨by kernel_rfl, ?_⟩) (by assumption) ?_
      rotate_left
      · intro w hSw; (try dsimp only at hSw); go_simp; (try with_reducible rfl)
      try simp only [Act.put, List.getElem_toArray, List.getElem_cons_succ, List.getElem_cons_zero, List.setIfInBounds_toArray, List.set_cons_zero, List.set_cons_succ]
      refine wpAnyH_ready (rs := [5]) (by kernel_rfl) (by simp) ?_
      refine AllReadyH.cons rfl (fun K hK => ?_) AllReadyH.nil
      go_simp
      refine (unhideR CN _ draws_b).mono ?_; rintro e w2 ⟨v2, rfl, tv2, b2⟩; obtain ⟨a2, c2, rfl, -, -⟩ := tv2
      go_wp2_with fail
      refine hK.out _ _ (by obtain ⟨h0, h1⟩ := hHeld; exact ⟨keep_c b2 rfl h0, keep_m b2 rfl h1⟩) (fun hHeld => ?_)
      clear hK K
      try simp only [Act.put, List.getElem_toArray, List.getElem_cons_succ, List.getElem_cons_zero, List.setIfInBounds_toArray, List.set_cons_zero, List.set_cons_succ]
      refine wpAnyH_ready (rs := [6]) (by kernel_rfl) (by simp) ?_
      refine AllReadyH.cons rfl (fun K hK => ?_) AllReadyH.nil
      go_simp
      refine (unhideR CL _ _ _ _).mono ?_; rintro e w3 ⟨rfl, b3⟩
      go_wp2_with fail
      refine hK.out _ _ (by obtain ⟨h0, h1⟩ := hHeld; exact ⟨keep_c b3 rfl h0, keep_m b3 rfl h1⟩) (fun hHeld => ?_)
      clear hK K
      try simp only [Act.put, List.getElem_toArray, List.getElem_cons_succ, List.getElem_cons_zero, List.setIfInBounds_toArray, List.set_cons_zero, List.set_cons_succ]
      refine wpAnyH_take (i := 7) (v := ?_) rfl (by kernel_rfl) (by kernel_rfl) (by kernel_rfl) (fun _ _ _ h => h) (Or.inl ⟨by kernel_rfl, ?_⟩) (by assumption) ?_
      rotate_left
      · intro w hSw; (try dsimp only at hSw); (have hlk := unhideR LKU w hSw.2); go_simp; (try with_reducible rfl)
      try simp only [Act.put, List.getElem_toArray, List.getElem_cons_succ, List.getElem_cons_zero, List.setIfInBounds_toArray, List.set_cons_zero, List.set_cons_succ]
      refine wpAnyH_take (i := 8) (v := ?_) rfl (by kernel_rfl) (by kernel_rfl) (by kernel_rfl) (fun _ _ _ h => h) (Or.inl ⟨by kernel_rfl, ?_⟩) (by assumption) ?_
      rotate_left
      · intro w hSw; (try dsimp only at hSw); go_simp; (try with_reducible rfl)
      try simp only [Act.put, List.getElem_toArray, List.getElem_cons_succ, List.getElem_cons_zero, List.setIfInBounds_toArray, List.set_cons_zero, List.set_cons_succ]
      refine wpAnyH_take (i := 9) (v := ?_) rfl (by kernel_rfl) (by kernel_rfl) (by kernel_rfl) (fun _ _ _ h => h) (Or.inl ⟨by kernel_rfl, ?_⟩) (by assumption) ?_
      rotate_left
      · intro w hSw; (try dsimp only at hSw); go_simp; (try with_reducible rfl)
      try simp only [Act.put, List.getElem_toArray, List.getElem_cons_succ, List.getElem_cons_zero, List.setIfInBounds_toArray, List.set_cons_zero, List.set_cons_succ]
      refine wpAnyH_take (i := 10) (v := ?_) rfl (by kernel_rfl) (by kernel_rfl) (by kernel_rfl) (fun _ _ _ h => h) (Or.inl ⟨by kernel_rfl, ?_⟩) (by assumption) ?_
      rotate_left
      · intro w hSw; (try dsimp only at hSw); go_simp; (try with_reducible rfl)
      try simp only [Act.put, List.getElem_toArray, List.getElem_cons_succ, List.getElem_cons_zero, List.setIfInBounds_toArray, List.set_cons_zero, List.set_cons_succ]
      refine wpAnyH_take (i := 11) (v := ?_) rfl (by kernel_rfl) (by kernel_rfl) (by kernel_rfl) (fun _ _ _ h => h) (Or.inl ⟨by kernel_rfl, ?_⟩) (by assumption) ?_
      rotate_left
      · intro w hSw; (try dsimp only at hSw); go_simp; (try with_reducible rfl)
      try simp only [Act.put, List.getElem_toArray, List.getElem_cons_succ, List.getElem_cons_zero, List.setIfInBounds_toArray, List.set_cons_zero, List.set_cons_succ]
      refine wpAnyH_take (i := 12) (v := ?_) rfl (by kernel_rfl) (by kernel_rfl) (by kernel_rfl) (fun _ _ _ h => h) (Or.inl ⟨by kernel_rfl, ?_⟩) (by assumption) ?_
      rotate_left
      · intro w hSw; (try dsimp only at hSw); go_simp; (try with_reducible rfl)
      try simp only [Act.put, List.getElem_toArray, List.getElem_cons_succ, List.getElem_cons_zero, List.setIfInBounds_toArray, List.set_cons_zero, List.set_cons_succ]
      refine wpAnyH_done (by kernel_rfl) ?_ _
      have B3 := bthen (bthen (draws_b (k := 1) (w := wr) (B := wr.heap.size)) b2) b3
      clear CN CL LKU q1 hmm
      go_wp2_with fail
      refine (unhideR CO _ B3).mono ?_
      rintro e w4 ⟨v4, rfl, pe4, b4⟩
      clear CO
      have B4 := bthen B3 b4
      have PE := hideR pe4
      obtain ⟨z1, z2, z3, z4, z5, z6, z7, z8, z9, rfl, -⟩ := pe4.form
      clear pe4
      have hI := unhideR HI
      have OUT : w4.heap[w.heap.size]? = some (.cells #[.int .i64 0, .string ⟨#[]⟩, .slice none 0 0, .slice none 0 0, .int .i64 0] 42) := (B4.block _ (Array.getElem?_eq_some_iff.1 hI.out).1).trans hI.out
      obtain ⟨⟨y0, y1, y2, y3, y4⟩, k0, k1, k2, k3, k4⟩ := cells5 OUT
      clear hI
      go_wp2_with fail
      (try simp only [Exit.inBlock, Exit.then])
      have s4 := b4.size
      have X5 := fun (k : Nat) (hk : k ≠ w.heap.size) => set5_other (W := w4) hk (.int .i64 z1) (.string z2) (.slice z3 z4 z5) (.slice z6 z7 z8) (.int .i64 z9)
      have KX : KR w4 (((((w4.setCell ⟨w.heap.size, 0, none⟩ (.int .i64 z1)).setCell ⟨w.heap.size, 1, none⟩ (.string z2)).setCell ⟨w.heap.size, 2, none⟩ (.slice z3 z4 z5)).setCell ⟨w.heap.size, 3, none⟩ (.slice z6 z7 z8)).setCell ⟨w.heap.size, 4, none⟩ (.int .i64 z9)) := fun g' cs fr hk => by
        rw [X5 g' (type_ne hk OUT (by decide))]; exact hk
      refine bodyPost_ret (v := .agg #[.int .i64 z1, .string z2, .slice z3 z4 z5, .slice z6 z7 z8, .int .i64 z9]) ?_ rfl (.inl ⟨_, _, rr, unhideR FIN, rfl, ?_, (unhideR HI).he, by omega, ?_, ?_⟩)
      · exact res_part rfl rfl (set5_at OUT _ _ _ _ _)
      · refine (unhideR PE).kept (fun g hg => ⟨⟨by have := hg.1; omega, by simp; have := hg.2; omega⟩, X5 g (by have := hg.1; omega)⟩) KX
      · exact ((unhideR HI).rd.later B4).kept (X5 b (by omega)) (X5 G (by omega)) KX
      · exact ((((((unhideR HI).bu.then (Bu.of B4)).setTop (Nat.le_refl _) _ _).setTop (Nat.le_refl _) _ _).setTop (Nat.le_refl _) _ _).setTop (Nat.le_refl _) _ _).setTop (Nat.le_refl _) _ _
end Go.Proofs.YtamefbpdnblbdaaGreatDoor.R

namespace Go.Proofs.YtamefbpdnblbdaaGreatDoor.R
open Go.RowKit Go.Proofs.YtamefbpdnblbdaaGreatDoor.T
set_option linter.unusedVariables false
set_option linter.unusedSimpArgs false

theorem altF_stop {grp : List TN → Res PT} {f : Nat} {p0 : PT} {acc : List PT} {r : List TN} (h : isS r 124 = false) : altF grp (f + 1) p0 acc r = .inr (R.theOne 5 acc (atP p0), r) := by
  unfold altF; rw [h]; rfl
theorem altF_bad {grp : List TN → Res PT} {f : Nat} {p0 : PT} {acc : List PT} {r : List TN} {e : Nat × Int} (h : isS r 124 = true) (hs : seqL grp r.tail = .inl e) : altF grp (f + 1) p0 acc r = .inl e := by
  unfold altF; rw [if_pos h, hs]
theorem altF_more {grp : List TN → Res PT} {f : Nat} {p0 p : PT} {acc : List PT} {r r1 : List TN} (h : isS r 124 = true) (hs : seqL grp r.tail = .inr (p, r1)) : altF grp (f + 1) p0 acc r = altF grp f p0 (acc ++ [p]) r1 := by
  conv => lhs; unfold altF
  rw [if_pos h, hs]
theorem RowI.first {b G m : Nat} {d : Int} {w w1 : World} {r1 : List TN} {p : PT} {x0 x1 x2 x3 x4 : Value} (hb : b < w.heap.size) (he : Ends r1) (rd : Rd w1 b G r1 m d) (mq : Mq w1 m) (bu : Bu b (w.alloc (.cells #[.int .i64 0, .string ⟨#[]⟩, .slice none 0 0, .slice none 0 0, .int .i64 0] 42)) w1) (hp : PartE (New (w.alloc (.cells #[.int .i64 0, .string ⟨#[]⟩, .slice none 0 0, .slice none 0 0, .int .i64 0] 42)) w1) w1 (.agg #[x0, x1, x2, x3, x4]) p) :
    RowI b G m d w [p] r1 (.slice (some ⟨w1.heap.size, 0, none⟩) 1 1) [x0, x1, x2, x3, x4] (w1.alloc (.cells #[x0, x1, x2, x3, x4] 42)) := by
  have s1 := bu.size
  rw [World.size_alloc] at s1
  have BN := Below.new1 (w := w1) (.cells #[x0, x1, x2, x3, x4] 42)
  refine ⟨he, rd.later BN, mq.later BN, ⟨rfl, .inr ⟨w1.heap.size, 1, #[x0, x1, x2, x3, x4], rfl, by omega, heap_alloc_new _ _, Nat.le_refl _, by unfold maxLen; omega, rfl, rfl⟩⟩, ⟨x0, x1, x2, x3, x4, [], rfl, ?_, rfl⟩, ((Bu.of (Below.new1 _)).then bu).alloc _, old_at (bu.at (heap_alloc_new w _) (by omega)) _⟩
  refine hp.kept (fun g hg => ⟨⟨?_, ?_, ?_⟩, BN.block g hg.2⟩) (KR.of BN)
  · have := hg.1; rw [World.size_alloc] at this; omega
  · have := hg.2; rw [World.size_alloc]; omega
  · intro e
    simp only [Value.ownBlock, Option.some.injEq] at e
    have := hg.2
    omega
theorem RowI.head {b G m : Nat} {d : Int} {w wr : World} {p0 : PT} {acc : List PT} {rr : List TN} {a : Option Addr} {n c : Nat} {cs : List Value} (h : RowI b G m d w (p0 :: acc) rr (.slice a n c) cs wr) :
    ∃ g, a = some ⟨g, 0, none⟩ ∧ n = acc.length + 1 ∧ n ≤ c ∧ c ≤ maxLen ∧ wr.cell? ⟨g, 4, none⟩ = some (.int .i64 (atP p0)) := by
  obtain ⟨c0, c1, c2, c3, c4, cs', rfl, hv, -⟩ := h.pts
  obtain ⟨y1, y2, y3, y4, y5, y6, y7, y8, y9, ev, eq⟩ := hv.form
  simp only [Value.agg.injEq, Array.mk.injEq, List.cons.injEq, and_true] at ev
  obtain ⟨-, -, -, -, rfl⟩ := ev
  rcases h.own.2 with ⟨e, h0⟩ | ⟨g, cap, cur, e, hb, hg, hn, hm, hs, ht⟩
  · simp at h0
  · injection e with e1 e2 e3
    subst e1; subst e3
    refine ⟨g, rfl, by rw [e2]; rfl, by omega, hm, ?_⟩
    have : (c0 :: c1 :: c2 :: c3 :: Value.int .i64 y9 :: cs')[4]? = some (Value.int .i64 y9) := rfl
    rw [← ht, List.getElem?_take_of_lt (by simp only [List.length_cons]; omega)] at this
    rw [← eq]
    simp only [World.cell?, hg]
    simpa using this
set_option maxRecDepth 20000 in
set_option maxHeartbeats 8000000 in
theorem alt_of {dd : Nat} (HSQ : SeqC dd) : AltC dd := by
  intro w b G r m h hr hl hm
  have hbl := h.lt
  have hGl := h.ltG
  have HB : ∀ o, Below w.heap.size w (w.alloc o) := fun o => Below.new1 o
  have CQ0 := hideR (fun W (bW : Below w.heap.size w W) => HSQ W b G r m (h.later bW) hr hl (hm.later bW))
  have HSQ' := hideR HSQ
  have HST := hideR (And.intro h (And.intro hr hm))
  clear h hr hm HSQ
  generalize hd0 : dp dd = d0 at *
  have HD0 := hideR hd0
  clear hd0
  go_enter Tryz.func94, Tryz.ntmps94
  go_wp2_with fail
  refine (unhideR CQ0 _ (HB _)).mono ?_
  clear CQ0
  rintro e w1 (⟨v1, p1, r1, eg, rfl, pe1, E1, hl1, rd1, bu1⟩ | ⟨q1, y1, eg, rfl, bu1⟩)
  case inr =>
    have FIN : Hid (altL (grpD dd) r = .inl (q1, y1)) := by show _ = _; unfold altL; rw [eg]
    clear eg
    unfold wrongE
    go_wp2_with fail
    exact ⟨rfl, .inr ⟨q1, y1, unhideR FIN, rfl, (Bu.of (HB _)).then bu1⟩⟩
  have ST : Hid (altL (grpD dd) r = altF (grpD dd) r.length p1 [p1] r1) := by show _ = _; unfold altL; rw [eg]
  have MQ1 : Mq w1 m := ((unhideR HST).2.2.later (HB _)).bu bu1 (((HB _).block b hbl).trans (unhideR HST).1.cells.choose_spec.1)
  obtain ⟨x1, x2, x3, x4, x5, x6, x7, x8, x9, rfl, -⟩ := pe1.form
  have RI := hideR (RowI.first hbl E1 rd1 MQ1 bu1 pe1)
  clear eg pe1 rd1 E1 MQ1 bu1 HST
  go_wp2_with fail
  go_loopw [3] (fun v wr => Hid (∃ (acc : List PT) (p0 : PT) (rr : List TN) (f : Nat) (cs : List Value), altL (grpD dd) r = altF (grpD dd) f p0 (p0 :: acc) rr ∧ rr.length ≤ f ∧ acc.length + rr.length ≤ r.length ∧ RowI b G m d0 w (p0 :: acc) rr v cs wr)) (fun _ wr => leftN b wr)
  case atStart => exact ⟨[], p1, r1, r.length, _, unhideR ST, hl1, by simp; exact hl1, unhideR RI⟩
  case round =>
    obtain ⟨acc, p0, rr, f, cs, hS, hff, hal, hI⟩ := unhideR hrel
    have HS := hideR hS
    have HI := hideR hI
    obtain ⟨q5, c5, rfl⟩ := own_form hI.own
    have hE := hI.he
    have hpos : 1 ≤ rr.length := by cases hq : rr with | nil => exact absurd hq hE.ne | cons x y => simp
    obtain ⟨f', rfl⟩ : ∃ f', f = f' + 1 := ⟨f - 1, by omega⟩
    have CG := hideR (fun W => sign_l ⟨#[124]⟩ W)
    have CS := hideR (fun W (bW : Below wr.heap.size wr W) => sees_l W b G rr m d0 (hI.rd.later bW) hE 4 [124] (bytes_cons (by omega) (by omega) (fun z hz => by cases hz)))
    rw [lk_sign] at CS
    have e124 : strOfNums [124] = ⟨#[124]⟩ := rfl
    rw [e124] at CS
    clear hrel hS ST RI e124
    cases hs : isS rr 124 with
    | true =>
      rw [hs] at CS
      have hk4 := isS_kd hs
      have E1 := hE.sign hs
      have CT := hideR (fun W (bW : Below wr.heap.size wr W) => take_l W b G rr m d0 (hI.rd.later bW) hE.ne E1.ne)
      have hrt := tail_lt hE.ne
      have HK := hideR hs
      have HE1 := hideR E1
      have hbr := hI.rd.lt
      clear hs hk4 hE hI E1
      go_wp2_with fail
      refine (unhideR CG _).mono ?_
      rintro e w2 ⟨rfl, b2⟩
      clear CG
      go_wp2_with fail
      refine (unhideR CS _ b2).mono ?_
      rintro e w3 ⟨rfl, b3⟩
      clear CS
      have B3 := bthen b2 b3
      go_wp2_with fail
      refine (unhideR CT _ B3).mono ?_
      rintro e w4 ⟨v4, rfl, tv4, rd4, bu4⟩
      clear CT tv4
      have hI := unhideR HI
      have hs3 := B3.size
      have hs4 := bu4.size
      have MQ4 : Mq w4 m := (hI.mq.later B3).bu bu4 ((B3.block b hbr).trans hI.rd.cells.choose_spec.1)
      have CQ := hideR (unhideR HSQ' w4 b G rr.tail m (by rw [unhideR HD0]; exact rd4) (unhideR HE1) (by omega) MQ4)
      rw [unhideR HD0] at CQ
      clear hI MQ4 rd4
      go_wp2_with fail
      refine (unhideR CQ).mono ?_
      clear CQ
      rintro e w5 (⟨v5, p5, r5, eg, rfl, pe5, E5, hl5, rd5, bu5⟩ | ⟨q5', y5, eg, rfl, bu5⟩)
      · have ATN : Hid (altF (grpD dd) (f' + 1) p0 (p0 :: acc) rr = altF (grpD dd) f' p0 ((p0 :: acc) ++ [p5]) r5) := altF_more (unhideR HK) eg
        have hs5 := bu5.size
        have PE := hideR (pe_new (w3 := w3) (w4 := w4) (w5 := w5) (pe5.kept (fun g hg => ⟨.inr hg, rfl⟩) (KR.refl _)) hs4 hs5)
        obtain ⟨x1, x2, x3, x4, x5, x6, x7, x8, x9, rfl, -⟩ := pe5.form
        have HO := own_bu (own_bu (ownL B3 (unhideR HI).own) bu4 (by omega)) bu5 (by omega)
        have hs0 := (unhideR HI).bu.size
        have BU5 := hideR (bu4.then bu5)
        have RD5 := hideR rd5
        have HE5 := hideR E5
        clear pe5 rd5 bu4 bu5 eg E5
        obtain ⟨ti, hi0, hz0, hz1, hz2⟩ := info_parts part_info
        go_wp2_with (at_builtin; refine wpList_append_lies _ rfl _ _ 40 rfl (w.heap.size + 1) 42 ti _ 5 80 Tryz.underlying40 hi0 hz0 hz1 hz2 rfl (by omega) _ _ _ rfl (HO.alloc _) ⟨w5.heap.size, 0, none⟩ 1 1 [.int .i64 x1, .string x2, .slice x3 x4 x5, .slice x6 x7 x8, .int .i64 x9] rfl rfl (new_part _ _ _ _ _ _ _ rfl) (by simp [Value.oneCell']) (by omega) (by unfold maxLen; simp; omega) (by simp; omega) (by simp; omega) (w5.heap.size + 1) (by simp) ?_; intro gg cap1 w6 hown1 hgrow hat hlt1)
        have NI := RowI.snoc (unhideR HI) hbl hGl B3 (unhideR BU5) (unhideR HE5) (unhideR RD5) (unhideR PE) hown1 hgrow (by rcases hat with h | h; exact .inl h; exact .inr (by simp [h]))
        have NI' := hideR NI
        clear hgrow hat hlt1 hown1 HO
        (try go_wp2_with fail)
        go_roundw
        case rel =>
          refine ⟨acc ++ [p5], p0, r5, f', _, ?_, ?_, ?_, unhideR NI'⟩
          · rw [unhideR HS, unhideR ATN]; rfl
          · omega
          · rw [List.length_append, List.length_singleton]; omega
        case measure =>
          rw [(unhideR NI').rd.left, (unhideR HI).rd.left]
          omega
      · have FIN : Hid (altL (grpD dd) r = .inl (q5', y5)) := by show _ = _; rw [unhideR HS]; exact altF_bad (unhideR HK) eg
        have BF := hideR ((((unhideR HI).bu.then (Bu.of B3)).then bu4).then bu5)
        clear eg
        unfold wrongE
        go_wp2_with fail
        exact ⟨rfl, .inr ⟨q5', y5, unhideR FIN, rfl, unhideR BF⟩⟩
    | false =>
      rw [hs] at CS
      have FIN : Hid (altL (grpD dd) r = .inr (R.theOne 5 (p0 :: acc) (atP p0), rr)) := by show _ = _; rw [unhideR HS]; exact altF_stop hs
      obtain ⟨g5, rfl, hn5, hc5, hm5, cat⟩ := hI.head
      unfold maxLen at hm5
      have hfq : fits (atP p0) := by
        obtain ⟨c0, c1, c2, c3, c4, cs', -, hv, -⟩ := hI.pts
        exact hv.fitsQ
      have CO := hideR (fun W (bW : Below wr.heap.size wr W) => theOne_l 5 (atP p0) (by unfold fits; omega) hfq (fun g => w.heap.size < g ∧ g < W.heap.size) (some ⟨g5, 0, none⟩) (p0 :: acc).length c5 (p0 :: acc) W (fun g hg => hg.2) ((unhideR HI).parts rfl bW))
      have CAT := hideR (fun W (bW : Below wr.heap.size wr W) => (bW.cell (block_lt' cat)).trans cat)
      have hbr := hI.rd.lt
      simp only [List.length_cons] at CO hc5 ⊢
      clear hs hE hI cat hfq
      go_wp2_with fail
      refine (unhideR CG _).mono ?_
      rintro e w2 ⟨rfl, b2⟩
      clear CG
      go_wp2_with fail
      refine (unhideR CS _ b2).mono ?_
      rintro e w3 ⟨rfl, b3⟩
      clear CS
      have B3 := bthen b2 b3
      have cat3 := unhideR CAT _ B3
      clear CAT
      go_wp2_with fail
      refine (unhideR CO _ B3).mono ?_
      rintro e w4 ⟨v4, rfl, pe4, b4⟩
      clear CO
      have B4 := bthen B3 b4
      have PE := hideR pe4
      obtain ⟨z1, z2, z3, z4, z5, z6, z7, z8, z9, rfl, -⟩ := pe4.form
      clear pe4
      have hI := unhideR HI
      have OUT : w4.heap[w.heap.size]? = some (.cells #[.int .i64 0, .string ⟨#[]⟩, .slice none 0 0, .slice none 0 0, .int .i64 0] 42) := (B4.block _ (Array.getElem?_eq_some_iff.1 hI.out).1).trans hI.out
      obtain ⟨⟨y0, y1, y2, y3, y4⟩, k0, k1, k2, k3, k4⟩ := cells5 OUT
      clear hI
      go_wp2_with fail
      (try simp only [Exit.inBlock, Exit.then])
      have s4 := b4.size
      have X5 := fun (k : Nat) (hk : k ≠ w.heap.size) => set5_other (W := w4) hk (.int .i64 z1) (.string z2) (.slice z3 z4 z5) (.slice z6 z7 z8) (.int .i64 z9)
      have KX : KR w4 (((((w4.setCell ⟨w.heap.size, 0, none⟩ (.int .i64 z1)).setCell ⟨w.heap.size, 1, none⟩ (.string z2)).setCell ⟨w.heap.size, 2, none⟩ (.slice z3 z4 z5)).setCell ⟨w.heap.size, 3, none⟩ (.slice z6 z7 z8)).setCell ⟨w.heap.size, 4, none⟩ (.int .i64 z9)) := fun g' cs fr hk => by
        rw [X5 g' (type_ne hk OUT (by decide))]; exact hk
      refine bodyPost_ret (v := .agg #[.int .i64 z1, .string z2, .slice z3 z4 z5, .slice z6 z7 z8, .int .i64 z9]) ?_ rfl (.inl ⟨_, _, rr, unhideR FIN, rfl, ?_, (unhideR HI).he, by omega, ?_, ?_⟩)
      · exact res_part rfl rfl (set5_at OUT _ _ _ _ _)
      · refine (unhideR PE).kept (fun g hg => ⟨⟨by have := hg.1; omega, by simp; have := hg.2; omega⟩, X5 g (by have := hg.1; omega)⟩) KX
      · exact ((unhideR HI).rd.later B4).kept (X5 b (by omega)) (X5 G (by omega)) KX
      · exact ((((((unhideR HI).bu.then (Bu.of B4)).setTop (Nat.le_refl _) _ _).setTop (Nat.le_refl _) _ _).setTop (Nat.le_refl _) _ _).setTop (Nat.le_refl _) _ _).setTop (Nat.le_refl _) _ _
end Go.Proofs.YtamefbpdnblbdaaGreatDoor.R

namespace Go.Proofs.YtamefbpdnblbdaaGreatDoor.R
open Go.RowKit Go.Proofs.YtamefbpdnblbdaaGreatDoor.T
set_option linter.unusedVariables false
set_option linter.unusedSimpArgs false

theorem Rd.deep {w : World} {b G : Nat} {r : List TN} {m : Nat} {d : Int} (h : Rd w b G r m d) (d' : Int) : Rd (w.setCell ⟨b, 2, none⟩ (.int .i64 d')) b G r m d' := by
  obtain ⟨v, h1, hl⟩ := h
  exact ⟨v, by have := heap_setCell_same w b 2 _ _ (.int .i64 d') h1; simpa using this, Lf.bu (Bu.set b 2 w _) h1 hl⟩
set_option maxRecDepth 20000 in
set_option maxHeartbeats 4000000 in
theorem grp_zero : GrpC 0 := by
  intro w b G r m h hr hs hl hm
  have hbl := h.lt
  have E1 := hr.sign hs
  have HB : ∀ o, Below w.heap.size w (w.alloc o) := fun o => Below.new1 o
  have CT := hideR (fun W (bW : Below w.heap.size w W) => take_l W b G r m (dp 0) (h.later bW) hr.ne E1.ne)
  clear h hr hs hm E1
  go_enter Tryz.func88, Tryz.ntmps88
  go_wp2_with fail
  refine (unhideR CT _ (HB _)).mono ?_
  rintro e w1 ⟨v1, rfl, ⟨a1, c1, rfl, -, -⟩, rd1, bu1⟩
  clear CT
  obtain ⟨rc, hrc, -, q2, -⟩ := rd1.cells
  have q2' : ∀ o, (w1.alloc o).cell? ⟨b, 2, none⟩ = some (.int .i64 12) := fun o => ((Below.new1 o).cell (block_lt' q2)).trans q2
  clear q2 hrc
  go_wp2_with fail
  exact ⟨rfl, .inr ⟨pl r, 4, rfl, rfl, ((Bu.of (HB _)).then bu1).alloc _⟩⟩
theorem close_yes {x : Res PT} {p : PT} {r : List TN} (h : x = .inr (p, r)) (hs : isS r 41 = true) : closeL x = .inr (p, r.tail) := by
  rw [h]; unfold closeL; simp only; rw [if_pos hs]
theorem close_no {x : Res PT} {p : PT} {r : List TN} (h : x = .inr (p, r)) (hs : isS r 41 = false) : closeL x = .inl (pl r, 3) := by
  rw [h]; unfold closeL; simp only; rw [hs]; rfl
theorem close_bad {x : Res PT} {e : Nat × Int} (h : x = .inl e) : closeL x = .inl e := by
  rw [h]; rfl
set_option maxRecDepth 20000 in
set_option maxHeartbeats 8000000 in
theorem grp_succ {dd : Nat} (hdd : dd < 12) (HAL : AltC dd) : GrpC (dd + 1) := by
  intro w b G r m h hr hs hl hm
  have hbl := h.lt
  have hGl := h.ltG
  have E1 := hr.sign hs
  have hrt := tail_lt hr.ne
  have HB : ∀ o, Below w.heap.size w (w.alloc o) := fun o => Below.new1 o
  have CT := hideR (fun W (bW : Below w.heap.size w W) => take_l W b G r m (dp (dd + 1)) (h.later bW) hr.ne E1.ne)
  have e0 : dp dd = dp (dd + 1) + 1 := by unfold dp; omega
  have hd1 : 0 ≤ dp (dd + 1) ∧ dp (dd + 1) ≤ 11 := by unfold dp; omega
  have CA := hideR (fun W (k1 : Rd W b G r.tail m (dp dd)) (k2 : Mq W m) => HAL W b G r.tail m k1 E1 (by omega) k2)
  rw [e0] at CA
  have HM := hideR hm
  have HRC := hideR h.cells
  clear h hr hs hm E1 HAL e0
  generalize dp (dd + 1) = D1 at *
  obtain ⟨hd1, hd2⟩ := hd1
  have n12 : (D1 == 12) = false := beq_eq_false_iff_ne.2 (by omega)
  go_enter Tryz.func88, Tryz.ntmps88
  go_wp2_with fail
  refine (unhideR CT _ (HB _)).mono ?_
  rintro e w1 ⟨v1, rfl, ⟨a1, c1, rfl, -, -⟩, rd1, bu1⟩
  clear CT
  obtain ⟨rc, hrc, -, q2, f2⟩ := rd1.cells
  have hb1 := rd1.lt
  have q2' : ∀ o, (w1.alloc o).cell? ⟨b, 2, none⟩ = some (.int .i64 D1) := fun o => ((Below.new1 o).cell (block_lt' q2)).trans q2
  have MQ1 : Mq w1 m := ((unhideR HM).later (HB _)).bu bu1 (((HB _).block b hbl).trans (unhideR HRC).choose_spec.1)
  have OUT1 := bu1.at (heap_alloc_new w _) (show w.heap.size ≠ b by omega)
  have HO1 := hideR OUT1
  have s1 : w.heap.size < w1.heap.size := (Array.getElem?_eq_some_iff.1 OUT1).1
  have BU1 := hideR ((Bu.of (HB _)).then bu1)
  have RD1 := hideR rd1
  have HMQ1 := hideR MQ1
  have HRC1 := hideR hrc
  clear HM HRC MQ1 OUT1 bu1 rd1 hrc
  go_wp2_with fail
  generalize hWW : (w1.setCell ⟨b, 2, none⟩ (.int .i64 (D1 + 1))).alloc (.cells #[.int .i64 (kd r), .string (strOfNums (tx r)), .slice a1 (rg r).length c1, .int .i64 (pl r : Nat)] 101) = WW at *
  have RDW : Rd WW b G r.tail m (D1 + 1) := by rw [← hWW]; exact ((unhideR RD1).deep _).later (Below.new1 _)
  have MQW : Mq WW m := by rw [← hWW]; exact ((unhideR HMQ1).bu (Bu.set b 2 w1 _) (unhideR HRC1)).later (Below.new1 _)
  have BUW : Bu b w WW := by rw [← hWW]; exact ((unhideR BU1).setOwn _ _).alloc _
  have OUTW : WW.heap[w.heap.size]? = some (.cells #[.int .i64 0, .string ⟨#[]⟩, .slice none 0 0, .slice none 0 0, .int .i64 0] 42) := by rw [← hWW]; exact old_at (other_at (unhideR HO1) (by omega) _) _
  have CB := hideR (unhideR CA _ RDW MQW)
  have htl : r.tail.length = r.length - 1 := List.length_tail
  clear CA q2' q2 f2 HO1 BU1 RD1 HMQ1 HRC1 hWW RDW MQW n12 hb1 s1
  have sW : w.heap.size < WW.heap.size := (Array.getElem?_eq_some_iff.1 OUTW).1
  refine (unhideR CB).mono ?_
  clear CB
  rintro e w3 (⟨v3, p3, r3, eg, rfl, pe3, E3, hl3, rd3, bu3⟩ | ⟨q3, y3, eg, rfl, bu3⟩)
  case inr =>
    have FIN : Hid (grpD (dd + 1) r = .inl (q3, y3)) := by show _ = _; unfold grpD; exact close_bad eg
    clear eg
    unfold wrongE
    go_wp2_with fail
    exact ⟨rfl, .inr ⟨q3, y3, unhideR FIN, rfl, BUW.then bu3⟩⟩
  have OUT3 := bu3.at OUTW (show w.heap.size ≠ b by omega)
  have s3 := bu3.size
  have PE := hideR pe3
  obtain ⟨x1, x2, x3, x4, x5, x6, x7, x8, x9, rfl, -⟩ := pe3.form
  have BU3 := hideR (BUW.then bu3)
  have CG := hideR (fun W => sign_l ⟨#[41]⟩ W)
  have h41 : U.isBytes [41] := bytes_cons (by omega) (by omega) (fun z hz => by cases hz)
  have e41 : strOfNums [41] = ⟨#[41]⟩ := rfl
  have HB3 : ∀ o, Below w3.heap.size w3 (w3.alloc o) := fun o => Below.new1 o
  have HE3 := hideR E3
  have HRD3 := hideR rd3
  have hb3 := rd3.lt
  have hG3 := rd3.ltG
  cases hs : isS r3 41 with
  | false =>
    have FIN : Hid (grpD (dd + 1) r = .inl (pl r3, 3)) := by show _ = _; unfold grpD; exact close_no eg hs
    have CN := hideR (fun W (bW : Below w3.heap.size w3 W) => need_no W b G r3 m (D1 + 1) (rd3.later bW) E3 4 [41] h41 (fun c => by have := lk_sign r3 41; rw [hs, decide_eq_true c] at this; cases this))
    rw [e41] at CN
    clear eg hs pe3 E3 rd3 bu3
    go_wp2_with fail
    refine (unhideR CG _).mono ?_
    rintro e w4 ⟨rfl, b4⟩
    clear CG
    go_wp2_with fail
    refine (unhideR CN _ (bthen (HB3 _) b4)).mono ?_
    rintro e w5 ⟨rfl, bu5⟩
    clear CN
    unfold wrongE
    go_wp2_with fail
    exact ⟨rfl, .inr ⟨pl r3, 3, unhideR FIN, rfl, ((unhideR BU3).then (Bu.of (bthen (HB3 _) b4))).then bu5⟩⟩
  | true =>
    have FIN : Hid (grpD (dd + 1) r = .inr (p3, r3.tail)) := by show _ = _; unfold grpD; exact close_yes eg hs
    have E4 := E3.sign hs
    have hr4 := tail_lt E3.ne
    have CN := hideR (fun W (bW : Below w3.heap.size w3 W) => need_yes W b G r3 m (D1 + 1) (rd3.later bW) E3 E4.ne 4 [41] h41 (of_decide_eq_true ((lk_sign r3 41).trans hs)))
    rw [e41] at CN
    have HE4 := hideR E4
    clear eg hs pe3 E3 rd3 bu3 E4
    go_wp2_with fail
    refine (unhideR CG _).mono ?_
    rintro e w4 ⟨rfl, b4⟩
    clear CG
    have B4 := bthen (HB3 _) b4
    have P4 := kept_new b4
    go_wp2_with fail
    refine (unhideR CN _ B4).mono ?_
    rintro e w5 ⟨v5, rfl, tv5, rd5, bu5⟩
    clear CN tv5
    have P5 := bu5.at P4 (show w3.heap.size ≠ b by omega)
    have OUT5 := bu5.at ((B4.block _ (Array.getElem?_eq_some_iff.1 OUT3).1).trans OUT3) (show w.heap.size ≠ b by omega)
    obtain ⟨rc5, hrc5, -, q2, f2⟩ := rd5.cells
    have s4 := B4.size
    have s5 := bu5.size
    obtain ⟨⟨y0, y1, y2, y3, y4⟩, k0, k1, k2, k3, k4⟩ := cells5 OUT5
    obtain ⟨⟨m0, m1, m2, m3, m4⟩, -⟩ := cells5 P5
    have nP : w3.heap.size ≠ b := by omega
    have nO : w.heap.size ≠ b := by omega
    have mm : ∀ u i, (w5.setCell ⟨b, 2, none⟩ u).cell? ⟨w3.heap.size, i, none⟩ = w5.cell? ⟨w3.heap.size, i, none⟩ := fun u i => World.cell?_of_block (Below.heap_setCell w5 ⟨b, 2, none⟩ u _ nP)
    have yy : ∀ u i, (w5.setCell ⟨b, 2, none⟩ u).cell? ⟨w.heap.size, i, none⟩ = w5.cell? ⟨w.heap.size, i, none⟩ := fun u i => World.cell?_of_block (Below.heap_setCell w5 ⟨b, 2, none⟩ u _ nO)
    go_wp2_with fail
    (try simp only [Exit.inBlock, Exit.then])
    have hI5 : (w5.setCell ⟨b, 2, none⟩ (.int .i64 D1)).heap[w.heap.size]? = some (.cells #[.int .i64 0, .string ⟨#[]⟩, .slice none 0 0, .slice none 0 0, .int .i64 0] 42) := other_at OUT5 nO _
    have X5 := fun (k : Nat) (hk : k ≠ w.heap.size) => set5_other (W := w5.setCell ⟨b, 2, none⟩ (.int .i64 D1)) hk (.int .i64 x1) (.string x2) (.slice x3 x4 x5) (.slice x6 x7 x8) (.int .i64 x9)
    have KX : KR (w5.setCell ⟨b, 2, none⟩ (.int .i64 D1)) ((((((w5.setCell ⟨b, 2, none⟩ (.int .i64 D1)).setCell ⟨w.heap.size, 0, none⟩ (.int .i64 x1)).setCell ⟨w.heap.size, 1, none⟩ (.string x2)).setCell ⟨w.heap.size, 2, none⟩ (.slice x3 x4 x5)).setCell ⟨w.heap.size, 3, none⟩ (.slice x6 x7 x8)).setCell ⟨w.heap.size, 4, none⟩ (.int .i64 x9)) := fun g' cs fr hk => by
      rw [X5 g' (type_ne hk hI5 (by decide))]; exact hk
    obtain ⟨rc3, hrc3, -⟩ := (unhideR HRD3).cells
    have KA : KR w3 (w5.setCell ⟨b, 2, none⟩ (.int .i64 D1)) := ((KR.of B4).then (KR.bu bu5 ((B4.block b hb3).trans hrc3) (by decide))).set hrc5 (by decide) _ _
    refine bodyPost_ret (v := .agg #[.int .i64 x1, .string x2, .slice x3 x4 x5, .slice x6 x7 x8, .int .i64 x9]) ?_ rfl (.inl ⟨_, p3, r3.tail, unhideR FIN, rfl, ?_, unhideR HE4, by omega, ?_, ?_⟩)
    · exact res_part rfl rfl (set5_at hI5 _ _ _ _ _)
    · refine (unhideR PE).kept (fun g hg => ⟨⟨by have := hg.1; omega, by simp; have := hg.2; omega⟩, ?_⟩) (KA.then KX)
      obtain ⟨g1, g2⟩ := hg
      rw [X5 g (by omega), Below.heap_setCell w5 ⟨b, 2, none⟩ _ g (show g ≠ b by omega), bu5.block g (by omega) (fun e => by injection e; omega), B4.block g g2]
    · exact (rd5.deep _).kept (X5 b (by omega)) (X5 G (by omega)) KX
    · exact (((((((((unhideR BU3).then (Bu.of B4)).then bu5).setOwn _ _).setTop (Nat.le_refl _) _ _).setTop (Nat.le_refl _) _ _).setTop (Nat.le_refl _) _ _).setTop (Nat.le_refl _) _ _).setTop (Nat.le_refl _) _ _)
theorem all_c : ∀ d, d ≤ 12 → GrpC d ∧ AltC d := by
  intro d
  induction d with
  | zero => intro _; exact ⟨grp_zero, alt_of (seq_of grp_zero)⟩
  | succ d ih =>
    intro h
    have g := grp_succ (by omega) (ih (by omega)).2
    exact ⟨g, alt_of (seq_of g)⟩
theorem alt_c : AltC 12 := (all_c 12 (Nat.le_refl _)).2
end Go.Proofs.YtamefbpdnblbdaaGreatDoor.R

namespace Go.Proofs.YtamefbpdnblbdaaGreatDoor.R
open Go.RowKit Go.Proofs.YtamefbpdnblbdaaGreatDoor.T
set_option linter.unusedVariables false
set_option linter.unusedSimpArgs false

theorem str_lit {x y : List Int} (hx : U.isBytes x) (hy : U.isBytes y) {l : List UInt8} (hl : (strOfNums y).toList = l) : ((strOfNums x).toList == l) = decide (x = y) := by
  rw [← hl]
  exact str_eq_list (St.of hx) (St.of hy)
theorem small_bytes {l : List Int} (h : l.all (fun z => decide (0 ≤ z) && decide (z ≤ 255)) = true) : U.isBytes l := by
  intro z hz
  have := List.all_eq_true.1 h z hz
  simp at this
  exact this
theorem m0_lit : (strOfNums [108, 111, 110, 103]).toList = [108, 111, 110, 103] := by decide +kernel
theorem m1_lit : (strOfNums [114, 101, 115]).toList = [114, 101, 115] := by decide +kernel
theorem m2_lit : (strOfNums [111, 102, 102]).toList = [111, 102, 102] := by decide +kernel
theorem m3_lit : (strOfNums [98, 108, 111, 99, 107]).toList = [98, 108, 111, 99, 107] := by decide +kernel
theorem m4_lit : (strOfNums [97, 108, 105, 103, 110]).toList = [97, 108, 105, 103, 110] := by decide +kernel
theorem m5_lit : (strOfNums [115, 121, 110, 99]).toList = [115, 121, 110, 99] := by decide +kernel
set_option maxRecDepth 20000 in
set_option maxHeartbeats 4000000 in
theorem markBit_l (x : List Int) (hx : U.isBytes x) (w : World) :
    Calls Tryz.prog 130 #[.string (strOfNums x)] w fun e w' => e = .returned (.int .i64 (bitOf x : Nat)) ∧ Below w.heap.size w w' := by
  have s0 := str_lit hx (y := [108, 111, 110, 103]) (small_bytes (by decide)) m0_lit
  have s1 := str_lit hx (y := [114, 101, 115]) (small_bytes (by decide)) m1_lit
  have s2 := str_lit hx (y := [111, 102, 102]) (small_bytes (by decide)) m2_lit
  have s3 := str_lit hx (y := [98, 108, 111, 99, 107]) (small_bytes (by decide)) m3_lit
  have s4 := str_lit hx (y := [97, 108, 105, 103, 110]) (small_bytes (by decide)) m4_lit
  have s5 := str_lit hx (y := [115, 121, 110, 99]) (small_bytes (by decide)) m5_lit
  unfold bitOf
  by_cases h0 : x = [108, 111, 110, 103]
  · rw [if_pos h0]
    rw [decide_eq_true h0] at s0
    clear h0 hx
    clear s1 s2 s3 s4 s5
    generalize strOfNums x = S at *
    go_enter Tryz.func130, Tryz.ntmps130
    go_wp2_with fail
    go_ret
    exact ⟨rfl, Below.refl _ _⟩
  rw [if_neg h0]
  rw [decide_eq_false h0] at s0
  clear h0
  by_cases h1 : x = [114, 101, 115]
  · rw [if_pos h1]
    rw [decide_eq_true h1] at s1
    clear h1 hx
    clear s2 s3 s4 s5
    generalize strOfNums x = S at *
    go_enter Tryz.func130, Tryz.ntmps130
    go_wp2_with fail
    go_ret
    exact ⟨rfl, Below.refl _ _⟩
  rw [if_neg h1]
  rw [decide_eq_false h1] at s1
  clear h1
  by_cases h2 : x = [111, 102, 102]
  · rw [if_pos h2]
    rw [decide_eq_true h2] at s2
    clear h2 hx
    clear s3 s4 s5
    generalize strOfNums x = S at *
    go_enter Tryz.func130, Tryz.ntmps130
    go_wp2_with fail
    go_ret
    exact ⟨rfl, Below.refl _ _⟩
  rw [if_neg h2]
  rw [decide_eq_false h2] at s2
  clear h2
  by_cases h3 : x = [98, 108, 111, 99, 107]
  · rw [if_pos h3]
    rw [decide_eq_true h3] at s3
    clear h3 hx
    clear s4 s5
    generalize strOfNums x = S at *
    go_enter Tryz.func130, Tryz.ntmps130
    go_wp2_with fail
    go_ret
    exact ⟨rfl, Below.refl _ _⟩
  rw [if_neg h3]
  rw [decide_eq_false h3] at s3
  clear h3
  by_cases h4 : x = [97, 108, 105, 103, 110]
  · rw [if_pos h4]
    rw [decide_eq_true h4] at s4
    clear h4 hx
    clear s5
    generalize strOfNums x = S at *
    go_enter Tryz.func130, Tryz.ntmps130
    go_wp2_with fail
    go_ret
    exact ⟨rfl, Below.refl _ _⟩
  rw [if_neg h4]
  rw [decide_eq_false h4] at s4
  clear h4
  by_cases h5 : x = [115, 121, 110, 99]
  · rw [if_pos h5]
    rw [decide_eq_true h5] at s5
    clear h5 hx
    generalize strOfNums x = S at *
    go_enter Tryz.func130, Tryz.ntmps130
    go_wp2_with fail
    go_ret
    exact ⟨rfl, Below.refl _ _⟩
  rw [if_neg h5]
  rw [decide_eq_false h5] at s5
  clear h5
  clear hx
  generalize strOfNums x = S at *
  go_enter Tryz.func130, Tryz.ntmps130
  go_wp2_with fail
  go_ret
  exact ⟨rfl, Below.refl _ _⟩
theorem marksF_yes {f k : Nat} {r : List TN} (h : kd r = 5) : marksF (f + 1) k r = marksF f (k ||| bitOf (tx r)) r.tail := by
  conv => lhs; unfold marksF
  rw [if_pos h]
theorem marksF_no {f k : Nat} {r : List TN} (h : kd r ≠ 5) : marksF (f + 1) k r = (k, r) := by
  unfold marksF
  rw [if_neg h]
theorem bit_le (x : List Int) : bitOf x ≤ 63 := by
  unfold bitOf
  repeat' split
  all_goals omega
theorem or_lt {a b : Nat} (ha : a ≤ 63) (hb : b ≤ 63) : a ||| b ≤ 63 := by
  have := Nat.or_lt_two_pow (n := 6) (x := a) (y := b) (by omega) (by omega)
  omega
theorem or_bits : ∀ a b : Fin 64, bits .or .i64 (a.val : Int) (b.val : Int) = ((a.val ||| b.val : Nat) : Int) := by decide +kernel
theorem or_int {a b : Nat} (ha : a ≤ 63) (hb : b ≤ 63) : bits .or .i64 (a : Int) (b : Int) = ((a ||| b : Nat) : Int) := or_bits ⟨a, by omega⟩ ⟨b, by omega⟩
set_option maxRecDepth 20000 in
set_option maxHeartbeats 4000000 in
theorem marks_l (w : World) (b G : Nat) (r : List TN) (m : Nat) (d : Int) (h : Rd w b G r m d) (hr : Ends r) :
    Calls Tryz.prog 93 #[.pointer (some ⟨b, 0, none⟩)] w fun e w' => e = .returned (.int .i64 ((marksL r).1 : Nat)) ∧ (marksL r).1 ≤ 63 ∧ Ends (marksL r).2 ∧ (marksL r).2.length ≤ r.length ∧ Rd w' b G (marksL r).2 m d ∧ Bu b w w' := by
  have HST := hideR (And.intro h hr)
  clear h hr
  go_enter Tryz.func93, Tryz.ntmps93
  go_wp2_with fail
  go_loopw [3] (fun v wr => ∃ k : Nat, v = .int .i64 (k : Int) ∧ k ≤ 63 ∧ Hid (∃ (rr : List TN) (f : Nat), marksL r = marksF f k rr ∧ rr.length ≤ f ∧ rr.length ≤ r.length ∧ Ends rr ∧ Rd wr b G rr m d ∧ Bu b w wr)) (fun _ wr => leftN b wr)
  case atStart => exact ⟨0, rfl, by omega, r, r.length, rfl, Nat.le_refl _, Nat.le_refl _, (unhideR HST).2, (unhideR HST).1, Bu.refl _ _⟩
  case round =>
    obtain ⟨k, rfl, hk, hq⟩ := hrel
    obtain ⟨rr, f, hS, hff, hrl, hE, rd, bu⟩ := unhideR hq
    have hpos : 1 ≤ rr.length := by cases hq : rr with | nil => exact absurd hq hE.ne | cons x y => simp
    obtain ⟨f', rfl⟩ : ∃ f', f = f' + 1 := ⟨f - 1, by omega⟩
    have CS := hideR (sees_l wr b G rr m d rd hE 5 [] (fun z hz => by cases hz))
    rw [lk_kind rr 5 (by decide)] at CS
    have e5 : strOfNums [] = ⟨#[]⟩ := rfl
    rw [e5] at CS
    have HS := hideR hS
    have HRD := hideR rd
    have HE := hideR hE
    have HBU := hideR bu
    by_cases h5 : kd rr = 5
    · rw [decide_eq_true h5] at CS
      have E1 := hE.tail (by rw [h5]; decide)
      have hrt := tail_lt hE.ne
      have CT := hideR (fun W (bW : Below wr.heap.size wr W) => take_l W b G rr m d (rd.later bW) hE.ne E1.ne)
      have CM := hideR (fun W => markBit_l (tx rr) hE.bytes W)
      have hor := or_int hk (bit_le (tx rr))
      have hol := or_lt hk (bit_le (tx rr))
      have STEP : Hid (marksL r = marksF f' (k ||| bitOf (tx rr)) rr.tail) := hS.trans (marksF_yes h5)
      have HE1 := hideR E1
      have hf := tok_field1
      clear h5 hE rd hS E1 hq e5 bu
      go_wp2_with fail
      refine (unhideR CS).mono ?_
      rintro e w1 ⟨rfl, b1⟩
      clear CS
      go_wp2_with fail
      refine (unhideR CT _ b1).mono ?_
      rintro e w2 ⟨v2, rfl, ⟨a2, c2, rfl, -, -⟩, rd2, bu2⟩
      clear CT
      go_wp2_with fail
      refine (unhideR CM _).mono ?_
      rintro e w3 ⟨rfl, b3⟩
      clear CM
      have RD3 := rd2.later b3
      go_wp2_with fail
      go_roundw
      case rel => exact ⟨k ||| bitOf (tx rr), by first | rfl | rw [hor], hol, rr.tail, f', unhideR STEP, by omega, by omega, unhideR HE1, RD3, (((unhideR HBU).then (Bu.of b1)).then bu2).then (Bu.of b3)⟩
      case measure => rw [RD3.left, (unhideR HRD).left]; exact hrt
    · rw [decide_eq_false h5] at CS
      have FIN : Hid (marksL r = (k, rr)) := hS.trans (marksF_no h5)
      clear h5 hE rd hS hq e5 bu
      go_wp2_with fail
      refine (unhideR CS).mono ?_
      rintro e w1 ⟨rfl, b1⟩
      clear CS
      go_wp2_with fail
      go_ret
      rw [unhideR FIN]
      exact ⟨rfl, hk, unhideR HE, hrl, (unhideR HRD).later b1, (unhideR HBU).then (Bu.of b1)⟩
def NRES (b G m : Nat) (d : Int) (n : Nat) (w : World) (x : Res (List (Int × Int))) (e : Ending) (w' : World) : Prop :=
  (∃ a c N r', x = .inr (N, r') ∧ e = .returned (.slice a N.length c) ∧ Rs w' a N.length c N ∧ Ty w' a ∧ Ends r' ∧ r'.length ≤ n ∧ Rd w' b G r' m d ∧ Bu b w w') ∨ (∃ q why, x = .inl (q, why) ∧ e = wrongE q why ∧ Bu b w w')
set_option maxRecDepth 20000 in
set_option maxHeartbeats 4000000 in
theorem not_l (w : World) (b G : Nat) (r : List TN) (m : Nat) (d : Int) (h : Rd w b G r m d) (hr : Ends r) :
    Calls Tryz.prog 95 #[.pointer (some ⟨b, 0, none⟩)] w (NRES b G m d r.length w (notL r)) := by
  have CG := hideR (fun W => sign_l ⟨#[47]⟩ W)
  have CS := hideR (fun W (bW : Below w.heap.size w W) => sees_l W b G r m d (h.later bW) hr 4 [47] (small_bytes (by decide)))
  rw [lk_sign] at CS
  have e47 : strOfNums [47] = ⟨#[47]⟩ := rfl
  rw [e47] at CS
  have hbl := h.lt
  cases hs : isS r 47 with
  | false =>
    rw [hs] at CS
    have FIN : Hid (notL r = .inr ([], r)) := by show _ = _; unfold notL; rw [hs]; rfl
    have HST := hideR (And.intro h hr)
    clear h hr hs e47
    go_enter Tryz.func95, Tryz.ntmps95
    go_wp2_with fail
    refine (unhideR CG _).mono ?_
    rintro e w1 ⟨rfl, b1⟩
    clear CG
    go_wp2_with fail
    refine (unhideR CS _ b1).mono ?_
    rintro e w2 ⟨rfl, b2⟩
    clear CS
    have B2 := bthen b1 b2
    go_wp2_with fail
    go_ret
    exact .inl ⟨none, 0, [], r, unhideR FIN, rfl, Rs.nil _, Ty.nil _, (unhideR HST).2, Nat.le_refl _, (unhideR HST).1.later B2, Bu.of B2⟩
  | true =>
    rw [hs] at CS
    have E1 := hr.sign hs
    have hrt := tail_lt hr.ne
    have CT := hideR (fun W (bW : Below w.heap.size w W) => take_l W b G r m d (h.later bW) hr.ne E1.ne)
    have e0 : strOfNums [] = ⟨#[]⟩ := rfl
    by_cases h2 : kd r.tail = 2
    · have FIN : Hid (notL r = .inr (rg r.tail, r.tail.tail)) := by show _ = _; unfold notL; rw [hs, if_pos h2]; rfl
      have E2 := E1.tail (by rw [h2]; decide)
      have hrt2 := tail_lt E1.ne
      have CN := hideR (fun W (k : Rd W b G r.tail m d) => need_yes W b G r.tail m d k E1 E2.ne 2 [] (fun z hz => by cases hz) (of_decide_eq_true ((lk_kind r.tail 2 (by decide)).trans (decide_eq_true h2))))
      rw [e0] at CN
      have HE2 := hideR E2
      have hf := tok_field2
      clear h hr hs e47 e0 E1 E2 h2
      go_enter Tryz.func95, Tryz.ntmps95
      go_wp2_with fail
      refine (unhideR CG _).mono ?_
      rintro e w1 ⟨rfl, b1⟩
      clear CG
      go_wp2_with fail
      refine (unhideR CS _ b1).mono ?_
      rintro e w2 ⟨rfl, b2⟩
      clear CS
      have B2 := bthen b1 b2
      go_wp2_with fail
      refine (unhideR CT _ B2).mono ?_
      rintro e w3 ⟨v3, rfl, tv3, rd3, bu3⟩
      clear CT tv3
      go_wp2_with fail
      refine (unhideR CN _ rd3).mono ?_
      rintro e w4 ⟨v4, rfl, ⟨a4, c4, rfl, hrs, hys⟩, rd4, bu4⟩
      clear CN
      go_wp2_with fail
      go_ret
      exact .inl ⟨a4, c4, rg r.tail, r.tail.tail, unhideR FIN, rfl, hrs, hys, unhideR HE2, by omega, rd4, ((Bu.of B2).then bu3).then bu4⟩
    · have FIN : Hid (notL r = .inl (pl r.tail, 3)) := by show _ = _; unfold notL; rw [hs, if_neg h2]; rfl
      have CN := hideR (fun W (k : Rd W b G r.tail m d) => need_no W b G r.tail m d k E1 2 [] (fun z hz => by cases hz) (fun c => by have := lk_kind r.tail 2 (by decide); rw [decide_eq_true c, decide_eq_false h2] at this; cases this))
      rw [e0] at CN
      clear h hr hs e47 e0 E1 h2
      go_enter Tryz.func95, Tryz.ntmps95
      go_wp2_with fail
      refine (unhideR CG _).mono ?_
      rintro e w1 ⟨rfl, b1⟩
      clear CG
      go_wp2_with fail
      refine (unhideR CS _ b1).mono ?_
      rintro e w2 ⟨rfl, b2⟩
      clear CS
      have B2 := bthen b1 b2
      go_wp2_with fail
      refine (unhideR CT _ B2).mono ?_
      rintro e w3 ⟨v3, rfl, tv3, rd3, bu3⟩
      clear CT tv3
      go_wp2_with fail
      refine (unhideR CN _ rd3).mono ?_
      rintro e w4 ⟨rfl, bu4⟩
      clear CN
      unfold wrongE
      go_wp2_with fail
      exact ⟨rfl, .inr ⟨pl r.tail, 3, unhideR FIN, rfl, ((Bu.of B2).then bu3).then bu4⟩⟩
end Go.Proofs.YtamefbpdnblbdaaGreatDoor.R

namespace Go.Proofs.YtamefbpdnblbdaaGreatDoor.R
open Go.RowKit Go.Proofs.YtamefbpdnblbdaaGreatDoor.T
set_option linter.unusedVariables false
set_option linter.unusedSimpArgs false

def Ss (D : Nat → Prop) (w : World) (a : Option Addr) (len cap : Nat) (ks : List (List Int)) : Prop :=
  ks.length = len ∧ len ≤ cap ∧ cap ≤ maxLen ∧ (∀ k ∈ ks, U.isBytes k) ∧ ∀ (j : Nat) (k : List Int), ks[j]? = some k → ∃ g off, a = some ⟨g, off, none⟩ ∧ D g ∧ w.cell? ⟨g, off + j, none⟩ = some (.string (strOfNums k))
theorem Ss.kept {D D' : Nat → Prop} {w X : World} {a : Option Addr} {len cap : Nat} {ks : List (List Int)} (h : Ss D w a len cap ks) (k : ∀ g, D g → D' g ∧ X.heap[g]? = w.heap[g]?) : Ss D' X a len cap ks := by
  obtain ⟨h1, h2, h3, h4, h5⟩ := h
  refine ⟨h1, h2, h3, h4, fun j x hx => ?_⟩
  obtain ⟨g, off, ha, hd, hc⟩ := h5 j x hx
  exact ⟨g, off, ha, (k g hd).1, by rw [World.cell?_of_block (k g hd).2]; exact hc⟩
def strC (ks : List (List Int)) : List Value := ks.map fun k => .string (strOfNums k)
theorem own_ss {w : World} {base : Nat} {a : Option Addr} {n c : Nat} {ks : List (List Int)} (h : w.ownsRow base 9 1 (.slice a n c) n (strC ks)) (hn : n = ks.length) (hb : ∀ k ∈ ks, U.isBytes k) : Ss (fun g => base ≤ g ∧ g < w.heap.size) w a n c ks := by
  subst hn
  rcases h.2 with ⟨e, h0⟩ | ⟨g, cap, cur, e, hbs, hg, hn, hm, hs, ht⟩
  · injection e with e1 e2 e3
    subst e1; subst e3
    have : ks = [] := List.eq_nil_of_length_eq_zero h0
    subst this
    exact ⟨rfl, Nat.le_refl _, Nat.zero_le _, hb, fun j u hu => by simp at hu⟩
  · injection e with e1 e2 e3
    subst e1; subst e3
    refine ⟨rfl, hn, hm, hb, fun j u hu => ⟨g, 0, rfl, ⟨hbs, (Array.getElem?_eq_some_iff.1 hg).1⟩, ?_⟩⟩
    rw [Nat.zero_add]
    simp only [World.cell?, hg]
    have hj : j < ks.length := (List.getElem?_eq_some_iff.1 hu).1
    have h2 : (strC ks)[j]? = some (.string (strOfNums u)) := by simp [strC, hu]
    rw [← ht, List.getElem?_take_of_lt (by omega)] at h2
    simpa using h2
theorem own_str {w : World} {base : Nat} {v : Value} {n : Nat} {cs : List Value} {T : TypeId} {sz : Nat} (h : w.ownsRow base T sz v n cs) : ∀ k, v.ownBlock = some k → ∃ cs', w.heap[k]? = some (.cells cs' T) := by
  intro k hk
  rcases h.2 with ⟨rfl, _⟩ | ⟨g, cap, cur, rfl, hb, hg, _⟩
  · simp [Value.ownBlock] at hk
  · simp [Value.ownBlock] at hk
    subst hk
    exact ⟨cur, hg⟩
theorem own_buT {w w' : World} {b base : Nat} {v : Value} {n : Nat} {cs : List Value} {T : TypeId} {sz : Nat} (h : w.ownsRow base T sz v n cs) (bu : Bu b w w') (hb : b < base) : w'.ownsRow base T sz v n cs :=
  h.kept bu (by
    cases e : v.ownBlock with
    | none => exact .inl rfl
    | some k => exact .inr (fun c => by injection c with c; have := (h.lt k e).1; omega))
theorem Rd.grown {w4 w5 : World} {b G : Nat} {r : List TN} {m : Nat} {d : Int} {base : Nat} {v : Value} {n : Nat} {cs : List Value} {T : TypeId} {sz : Nat} {o : Obj} (h : Rd w4 b G r m d) (own : w4.ownsRow base T sz v n cs) (hT : 142 ≠ T) (hb : b < base) (hG : G < base) (hg : (w4.alloc o).grownBy w5 v.ownBlock) : Rd w5 b G r m d := by
  have lo := own.lt
  have sA : (w4.alloc o).heap.size = w4.heap.size + 1 := by simp
  have l1 := h.lt
  have l2 := h.ltG
  refine h.kept ?_ ?_ ?_
  · rw [hg.block b (by omega) (fun e => by have := (lo b e.symm).1; omega), (Below.new1 o).block b (by omega)]
  · rw [hg.block G (by omega) (fun e => by have := (lo G e.symm).1; omega), (Below.new1 o).block G (by omega)]
  · refine (KR.of (Below.new1 o)).then (KR.grown hg fun k hk => ?_)
    obtain ⟨cs', hc⟩ := own_str own k hk
    exact ⟨cs', T, _, old_at hc o, hT⟩
theorem str_info : (Tryz.prog.info? 9).map (fun i => (i.zero, i.size, i.bytes)) = some (some (.string ⟨#[]⟩), 1, 16) := by kernel_rfl
theorem new_str (w : World) (n : Nat) (x0 : Value) (hn : n = w.heap.size) : ∀ (j : Nat) (u : Value), [x0][j]? = some u → (w.alloc (.cells #[x0] 9)).cell? ((⟨n, 0, none⟩ : Addr).add j) = some u := by
  subst hn
  exact World.news_of_block (cs := #[x0]) (t := 9) (fr := (0, 0)) (heap_alloc_new w _)
theorem strC_snoc (ks : List (List Int)) (k : List Int) : strC ks ++ [.string (strOfNums k)] = strC (ks ++ [k]) := by simp [strC]
theorem keysF_more {f : Nat} {acc : List (List Int)} {r : List TN} (h : kd r = 1) (h8 : acc.length ≠ 8) : keysF (f + 1) acc r = keysF f (acc ++ [tx r]) r.tail := by
  conv => lhs; unfold keysF
  rw [if_pos h, if_neg h8]
theorem keysF_many {f : Nat} {acc : List (List Int)} {r : List TN} (h : kd r = 1) (h8 : acc.length = 8) : keysF (f + 1) acc r = .inl (pl r, 7) := by
  unfold keysF
  rw [if_pos h, if_pos h8]
theorem keysF_none {f : Nat} {r : List TN} (h : kd r ≠ 1) : keysF (f + 1) [] r = .inl (pl r, 3) := by
  unfold keysF
  rw [if_neg h, if_pos rfl]
theorem keysF_end {f : Nat} {acc : List (List Int)} {r : List TN} (h : kd r ≠ 1) (ha : acc ≠ []) (hs : isS r 59 = true) : keysF (f + 1) acc r = .inr (acc, r.tail) := by
  unfold keysF
  rw [if_neg h, if_neg ha, if_pos hs]
theorem keysF_bad {f : Nat} {acc : List (List Int)} {r : List TN} (h : kd r ≠ 1) (ha : acc ≠ []) (hs : isS r 59 = false) : keysF (f + 1) acc r = .inl (pl r, 3) := by
  unfold keysF
  rw [if_neg h, if_neg ha, hs]
  rfl
def KRES (b G m : Nat) (d : Int) (n : Nat) (w : World) (x : Res (List (List Int))) (e : Ending) (w' : World) : Prop :=
  (∃ a c K r', x = .inr (K, r') ∧ e = .returned (.slice a K.length c) ∧ Ss (New w w') w' a K.length c K ∧ K.length ≤ 8 ∧ Ends r' ∧ r'.length ≤ n ∧ Rd w' b G r' m d ∧ Bu b w w') ∨ (∃ q why, x = .inl (q, why) ∧ e = wrongE q why ∧ Bu b w w')
theorem need_kind {r : List TN} {k : Int} (hk : k ≠ 4) (h : kd r = k) : R.lk r = (k, []) := of_decide_eq_true ((lk_kind r k hk).trans (decide_eq_true h))
theorem need_kind' {r : List TN} {k : Int} (hk : k ≠ 4) (h : kd r ≠ k) : R.lk r ≠ (k, []) := fun c => by have := lk_kind r k hk; rw [decide_eq_true c, decide_eq_false h] at this; cases this
theorem need_sign {r : List TN} {c : Int} (h : isS r c = true) : R.lk r = (4, [c]) := of_decide_eq_true ((lk_sign r c).trans h)
theorem need_sign' {r : List TN} {c : Int} (h : isS r c = false) : R.lk r ≠ (4, [c]) := fun x => by have := lk_sign r c; rw [decide_eq_true x, h] at this; cases this
set_option maxRecDepth 20000 in
set_option maxHeartbeats 8000000 in
theorem keys_l (w : World) (b G : Nat) (r : List TN) (m : Nat) (d : Int) (h : Rd w b G r m d) (hr : Ends r) :
    Calls Tryz.prog 48 #[.pointer (some ⟨b, 0, none⟩)] w (KRES b G m d r.length w (keysL r)) := by
  have CG := hideR (fun W => sign_l ⟨#[37]⟩ W)
  have CS := hideR (fun W (bW : Below w.heap.size w W) => sees_l W b G r m d (h.later bW) hr 4 [37] (small_bytes (by decide)))
  rw [lk_sign] at CS
  have e37 : strOfNums [37] = ⟨#[37]⟩ := rfl
  rw [e37] at CS
  have hbl := h.lt
  have hGl := h.ltG
  cases hs : isS r 37 with
  | false =>
    rw [hs] at CS
    have FIN : Hid (keysL r = .inr ([], r)) := by show _ = _; unfold keysL; rw [hs]; rfl
    have HST := hideR (And.intro h hr)
    clear h hr hs e37
    go_enter Tryz.func48, Tryz.ntmps48
    go_wp2_with fail
    refine (unhideR CG _).mono ?_
    rintro e w1 ⟨rfl, b1⟩
    clear CG
    go_wp2_with fail
    refine (unhideR CS _ b1).mono ?_
    rintro e w2 ⟨rfl, b2⟩
    clear CS
    have B2 := bthen b1 b2
    go_wp2_with fail
    go_ret
    exact .inl ⟨none, 0, [], r, unhideR FIN, rfl, ⟨rfl, Nat.le_refl _, Nat.zero_le _, (fun k hk => by cases hk), fun j u hu => by simp at hu⟩, by simp, (unhideR HST).2, Nat.le_refl _, (unhideR HST).1.later B2, Bu.of B2⟩
  | true =>
    rw [hs] at CS
    have E1 := hr.sign hs
    have hrt := tail_lt hr.ne
    have CT := hideR (fun W (bW : Below w.heap.size w W) => take_l W b G r m d (h.later bW) hr.ne E1.ne)
    have ST : Hid (keysL r = keysF r.length [] r.tail) := by show _ = _; unfold keysL; rw [hs]; rfl
    have HE1 := hideR E1
    have e0 : strOfNums [] = ⟨#[]⟩ := rfl
    have e59 : strOfNums [59] = ⟨#[59]⟩ := rfl
    have CG2 := hideR (fun W => sign_l ⟨#[59]⟩ W)
    clear h hr hs e37 E1
    go_enter Tryz.func48, Tryz.ntmps48
    go_wp2_with fail
    refine (unhideR CG _).mono ?_
    rintro e w1 ⟨rfl, b1⟩
    clear CG
    go_wp2_with fail
    refine (unhideR CS _ b1).mono ?_
    rintro e w2 ⟨rfl, b2⟩
    clear CS
    have B2 := bthen b1 b2
    go_wp2_with fail
    refine (unhideR CT _ B2).mono ?_
    rintro e w3 ⟨v3, rfl, tv3, rd3, bu3⟩
    clear CT tv3
    have BU3 := hideR ((Bu.of B2).then bu3)
    have RD3 := hideR rd3
    clear bu3 rd3
    go_wp2_with fail
    go_loopw [3] (fun v wr => Hid (∃ (acc : List (List Int)) (rr : List TN) (f : Nat), keysL r = keysF f acc rr ∧ rr.length ≤ f ∧ rr.length ≤ r.length ∧ acc.length ≤ 8 ∧ (∀ k ∈ acc, U.isBytes k) ∧ Ends rr ∧ Rd wr b G rr m d ∧ wr.ownsRow w.heap.size 9 1 v acc.length (strC acc) ∧ Bu b w wr)) (fun _ wr => leftN b wr)
    case atStart => exact ⟨[], r.tail, r.length, unhideR ST, by omega, by omega, by simp, (fun k hk => by cases hk), unhideR HE1, unhideR RD3, World.ownsRow_nil _ _ _ _, unhideR BU3⟩
    case round =>
      obtain ⟨acc, rr, f, hS, hff, hrl, ha8, hab, hE, rd, own, bu⟩ := unhideR hrel
      obtain ⟨q5, c5, rfl⟩ := own_form own
      have hpos : 1 ≤ rr.length := by cases hq : rr with | nil => exact absurd hq hE.ne | cons x y => simp
      obtain ⟨f', rfl⟩ : ∃ f', f = f' + 1 := ⟨f - 1, by omega⟩
      have HS := hideR hS
      have HRD := hideR rd
      have HE := hideR hE
      have HBU := hideR bu
      have HOW := hideR own
      have HAB := hideR hab
      have hbr := rd.lt
      have CS := hideR (sees_l wr b G rr m d rd hE 1 [] (fun z hz => by cases hz))
      rw [lk_kind rr 1 (by decide), e0] at CS
      clear ST RD3 BU3 HE1 hrel
      by_cases h1 : kd rr = 1
      · rw [decide_eq_true h1] at CS
        by_cases h8 : acc.length = 8
        · have FIN : Hid (keysL r = .inl (pl rr, 7)) := hS.trans (keysF_many h1 h8)
          have hrt1 := tail_lt hE.ne
          have E2 := hE.tail (by rw [h1]; decide)
          have CN := hideR (fun W (bW : Below wr.heap.size wr W) => need_yes W b G rr m d (rd.later bW) hE E2.ne 1 [] (fun z hz => by cases hz) (need_kind (by decide) h1))
          rw [e0] at CN
          have HE2 := hideR E2
          have HTB := hideR hE.bytes
          have a0 : ((acc.length : Int) == 0) = false := beq_eq_false_iff_ne.2 (by omega)
          have n8 : ((acc.length : Int) == 8) = true := by rw [h8]; rfl
          have HN8 := hideR h8
          clear h1 h8 hE rd hS E2 own hab bu
          go_wp2_with fail
          refine (unhideR CS).mono ?_
          rintro e w4 ⟨rfl, b4⟩
          clear CS
          go_wp2_with fail
          refine (unhideR CN _ b4).mono ?_
          rintro e w5 ⟨v5, rfl, ⟨a3, c3, rfl, -, -⟩, rd5, bu5⟩
          clear CN
          have BU5 := hideR (((unhideR HBU).then (Bu.of (b4))).then bu5)
          have HO := own_buT (ownL b4 (unhideR HOW)) bu5 hbl
          have RD5 := hideR rd5
          have hs5 : w.heap.size ≤ w5.heap.size := by have := (unhideR BU5).size; omega
          clear bu5 rd5
          go_wp2_with fail
          exact ⟨rfl, .inr ⟨pl rr, 7, unhideR FIN, rfl, (unhideR BU5).alloc _⟩⟩
          
        · have STEP : Hid (keysL r = keysF f' (acc ++ [tx rr]) rr.tail) := hS.trans (keysF_more h1 h8)
          have hrt1 := tail_lt hE.ne
          have E2 := hE.tail (by rw [h1]; decide)
          have CN := hideR (fun W (bW : Below wr.heap.size wr W) => need_yes W b G rr m d (rd.later bW) hE E2.ne 1 [] (fun z hz => by cases hz) (need_kind (by decide) h1))
          rw [e0] at CN
          have HE2 := hideR E2
          have HTB := hideR hE.bytes
          by_cases hz : acc.length = 0
          · have a0 : ((acc.length : Int) == 0) = true := by rw [hz]; rfl
            clear hz
            clear h1 hE rd hS E2 own hab bu CS
            have b4 : Below wr.heap.size wr wr := Below.refl _ _
            go_wp2_with fail
            refine (unhideR CN _ b4).mono ?_
            rintro e w5 ⟨v5, rfl, ⟨a3, c3, rfl, -, -⟩, rd5, bu5⟩
            clear CN
            have BU5 := hideR (((unhideR HBU).then (Bu.of (b4))).then bu5)
            have HO := own_buT (ownL b4 (unhideR HOW)) bu5 hbl
            have RD5 := hideR rd5
            have hs5 : w.heap.size ≤ w5.heap.size := by have := (unhideR BU5).size; omega
            clear bu5 rd5
            have n8 : ((acc.length : Int) == 8) = false := beq_eq_false_iff_ne.2 (by omega)
            obtain ⟨ti, hi0, hz0, hz1, hz2⟩ := info_parts str_info
            generalize hTX : strOfNums (tx rr) = TX at *
            have HTX := hideR hTX
            clear hTX
            go_wp2_with (at_builtin; refine wpList_append_lies _ rfl _ _ 23 rfl w.heap.size 9 ti _ 1 16 Tryz.underlying23 hi0 hz0 hz1 hz2 rfl (by omega) _ _ _ rfl ((HO.alloc _).alloc _) ⟨w5.heap.size + 1, 0, none⟩ 1 1 [.string TX] rfl rfl (new_str _ _ _ (by simp)) (by simp [Value.oneCell']) (by omega) (by unfold maxLen; omega) (by omega) (by simp; omega) (w5.heap.size + 2) (by simp) ?_; intro gg cap1 w6 hown1 hgrow hat hlt1)
            have RDA := (unhideR RD5).later (Below.new1 (w := w5) (.cells #[.int .i64 (kd rr), .string TX, .slice a3 (rg rr).length c3, .int .i64 (pl rr : Nat)] 101))
            have RD6 := hideR (Rd.grown RDA (HO.alloc _) (by decide) hbl hGl hgrow)
            have BU6 := hideR ((((unhideR BU5).alloc _).alloc _).grow hgrow (fun k hk => (HO.lt k hk).1))
            have OW6 : Hid (w6.ownsRow w.heap.size 9 1 (.slice (some ⟨gg, 0, none⟩) (acc.length + 1) cap1) (acc ++ [tx rr]).length (strC (acc ++ [tx rr]))) := by
              show World.ownsRow _ _ _ _ _ _ _
              rw [← strC_snoc, List.length_append, unhideR HTX]
              exact hown1
            clear hgrow hat hlt1 hown1 HO RDA
            (try go_wp2_with fail)
            go_roundw
            case rel =>
              refine ⟨acc ++ [tx rr], rr.tail, f', unhideR STEP, by omega, by omega, by rw [List.length_append, List.length_singleton]; omega, ?_, unhideR HE2, unhideR RD6, unhideR OW6, unhideR BU6⟩
              intro k hk
              rcases List.mem_append.1 hk with hk | hk
              · exact unhideR HAB k hk
              · rw [List.mem_singleton.1 hk]; exact unhideR HTB
            case measure => rw [(unhideR RD6).left, (unhideR HRD).left]; exact hrt1
            
          · have a0 : ((acc.length : Int) == 0) = false := beq_eq_false_iff_ne.2 (by omega)
            clear h1 hE rd hS E2 own hab bu
            go_wp2_with fail
            refine (unhideR CS).mono ?_
            rintro e w4 ⟨rfl, b4⟩
            clear CS
            go_wp2_with fail
            refine (unhideR CN _ b4).mono ?_
            rintro e w5 ⟨v5, rfl, ⟨a3, c3, rfl, -, -⟩, rd5, bu5⟩
            clear CN
            have BU5 := hideR (((unhideR HBU).then (Bu.of (b4))).then bu5)
            have HO := own_buT (ownL b4 (unhideR HOW)) bu5 hbl
            have RD5 := hideR rd5
            have hs5 : w.heap.size ≤ w5.heap.size := by have := (unhideR BU5).size; omega
            clear bu5 rd5
            have n8 : ((acc.length : Int) == 8) = false := beq_eq_false_iff_ne.2 (by omega)
            obtain ⟨ti, hi0, hz0, hz1, hz2⟩ := info_parts str_info
            generalize hTX : strOfNums (tx rr) = TX at *
            have HTX := hideR hTX
            clear hTX
            go_wp2_with (at_builtin; refine wpList_append_lies _ rfl _ _ 23 rfl w.heap.size 9 ti _ 1 16 Tryz.underlying23 hi0 hz0 hz1 hz2 rfl (by omega) _ _ _ rfl ((HO.alloc _).alloc _) ⟨w5.heap.size + 1, 0, none⟩ 1 1 [.string TX] rfl rfl (new_str _ _ _ (by simp)) (by simp [Value.oneCell']) (by omega) (by unfold maxLen; omega) (by omega) (by simp; omega) (w5.heap.size + 2) (by simp) ?_; intro gg cap1 w6 hown1 hgrow hat hlt1)
            have RDA := (unhideR RD5).later (Below.new1 (w := w5) (.cells #[.int .i64 (kd rr), .string TX, .slice a3 (rg rr).length c3, .int .i64 (pl rr : Nat)] 101))
            have RD6 := hideR (Rd.grown RDA (HO.alloc _) (by decide) hbl hGl hgrow)
            have BU6 := hideR ((((unhideR BU5).alloc _).alloc _).grow hgrow (fun k hk => (HO.lt k hk).1))
            have OW6 : Hid (w6.ownsRow w.heap.size 9 1 (.slice (some ⟨gg, 0, none⟩) (acc.length + 1) cap1) (acc ++ [tx rr]).length (strC (acc ++ [tx rr]))) := by
              show World.ownsRow _ _ _ _ _ _ _
              rw [← strC_snoc, List.length_append, unhideR HTX]
              exact hown1
            clear hgrow hat hlt1 hown1 HO RDA
            (try go_wp2_with fail)
            go_roundw
            case rel =>
              refine ⟨acc ++ [tx rr], rr.tail, f', unhideR STEP, by omega, by omega, by rw [List.length_append, List.length_singleton]; omega, ?_, unhideR HE2, unhideR RD6, unhideR OW6, unhideR BU6⟩
              intro k hk
              rcases List.mem_append.1 hk with hk | hk
              · exact unhideR HAB k hk
              · rw [List.mem_singleton.1 hk]; exact unhideR HTB
            case measure => rw [(unhideR RD6).left, (unhideR HRD).left]; exact hrt1
            
          
      · rw [decide_eq_false h1] at CS
        by_cases hz : acc = []
        · subst hz
          have FIN : Hid (keysL r = .inl (pl rr, 3)) := hS.trans (keysF_none h1)
          have CN := hideR (fun W (bW : Below wr.heap.size wr W) => need_no W b G rr m d (rd.later bW) hE 1 [] (fun z hz => by cases hz) (need_kind' (by decide) h1))
          rw [e0] at CN
          clear h1 hE rd hS own hab bu CS
          simp only [List.length_nil] at *
          go_wp2_with fail
          refine (unhideR CN _ (Below.refl _ _)).mono ?_
          rintro e w5 ⟨rfl, bu5⟩
          clear CN
          unfold wrongE
          go_wp2_with fail
          exact ⟨rfl, .inr ⟨pl rr, 3, unhideR FIN, rfl, (unhideR HBU).then bu5⟩⟩
          
        · have hz' : acc.length ≠ 0 := fun c => hz (List.eq_nil_of_length_eq_zero c)
          have a0 : ((acc.length : Int) == 0) = false := beq_eq_false_iff_ne.2 (by omega)
          cases hs : isS rr 59 with
          | true =>
            have FIN : Hid (keysL r = .inr (acc, rr.tail)) := hS.trans (keysF_end h1 hz hs)
            have hrt1 := tail_lt hE.ne
            have E2 := hE.sign hs
            have CN := hideR (fun W (bW : Below wr.heap.size wr W) => need_yes W b G rr m d (rd.later bW) hE E2.ne 4 [59] (small_bytes (by decide)) (need_sign hs))
            rw [e59] at CN
            have HE2 := hideR E2
            clear h1 hE rd hS own hab bu hz hs E2
            go_wp2_with fail
            refine (unhideR CS).mono ?_
            rintro e w4 ⟨rfl, b4⟩
            clear CS
            go_wp2_with fail
            refine (unhideR CG2 _).mono ?_
            rintro e w5 ⟨rfl, b5⟩
            clear CG2
            have B5 := bthen b4 b5
            go_wp2_with fail
            refine (unhideR CN _ B5).mono ?_
            rintro e w6 ⟨v6, rfl, tv6, rd6, bu6⟩
            clear CN tv6
            have OW6 := hideR (own_buT (ownL B5 (unhideR HOW)) bu6 hbl)
            go_wp2_with fail
            go_ret
            exact .inl ⟨q5, c5, acc, rr.tail, unhideR FIN, rfl, own_ss (unhideR OW6) rfl (unhideR HAB), ha8, unhideR HE2, by omega, rd6, ((unhideR HBU).then (Bu.of B5)).then bu6⟩
          | false =>
            have FIN : Hid (keysL r = .inl (pl rr, 3)) := hS.trans (keysF_bad h1 hz hs)
            have CN := hideR (fun W (bW : Below wr.heap.size wr W) => need_no W b G rr m d (rd.later bW) hE 4 [59] (small_bytes (by decide)) (need_sign' hs))
            rw [e59] at CN
            clear h1 hE rd hS own hab bu hz hs
            go_wp2_with fail
            refine (unhideR CS).mono ?_
            rintro e w4 ⟨rfl, b4⟩
            clear CS
            go_wp2_with fail
            refine (unhideR CG2 _).mono ?_
            rintro e w5 ⟨rfl, b5⟩
            clear CG2
            have B5 := bthen b4 b5
            go_wp2_with fail
            refine (unhideR CN _ B5).mono ?_
            rintro e w6 ⟨rfl, bu6⟩
            clear CN
            unfold wrongE
            go_wp2_with fail
            exact ⟨rfl, .inr ⟨pl rr, 3, unhideR FIN, rfl, ((unhideR HBU).then (Bu.of B5)).then bu6⟩⟩
          
end Go.Proofs.YtamefbpdnblbdaaGreatDoor.R

namespace Go.Proofs.YtamefbpdnblbdaaGreatDoor.R
open Go.RowKit Go.Proofs.YtamefbpdnblbdaaGreatDoor.T
set_option linter.unusedVariables false
set_option linter.unusedSimpArgs false

theorem cells9 {W : World} {g : Nat} {x0 x1 x2 x3 x4 x5 x6 x7 x8 : Value} {t : TypeId} (h : W.heap[g]? = some (.cells #[x0, x1, x2, x3, x4, x5, x6, x7, x8] t)) :
    (W.cell? ⟨g, 0, none⟩ = some x0 ∧ W.cell? ⟨g, 1, none⟩ = some x1 ∧ W.cell? ⟨g, 2, none⟩ = some x2 ∧ W.cell? ⟨g, 3, none⟩ = some x3 ∧ W.cell? ⟨g, 4, none⟩ = some x4 ∧ W.cell? ⟨g, 5, none⟩ = some x5 ∧ W.cell? ⟨g, 6, none⟩ = some x6 ∧ W.cell? ⟨g, 7, none⟩ = some x7 ∧ W.cell? ⟨g, 8, none⟩ = some x8) ∧
    (W.frozen? ⟨g, 0, none⟩ = false ∧ W.frozen? ⟨g, 1, none⟩ = false ∧ W.frozen? ⟨g, 2, none⟩ = false ∧ W.frozen? ⟨g, 3, none⟩ = false ∧ W.frozen? ⟨g, 4, none⟩ = false ∧ W.frozen? ⟨g, 5, none⟩ = false ∧ W.frozen? ⟨g, 6, none⟩ = false ∧ W.frozen? ⟨g, 7, none⟩ = false ∧ W.frozen? ⟨g, 8, none⟩ = false) := by
  refine ⟨⟨?_, ?_, ?_, ?_, ?_, ?_, ?_, ?_, ?_⟩, ?_, ?_, ?_, ?_, ?_, ?_, ?_, ?_, ?_⟩ <;> simp [World.cell?, World.frozen?, h]
theorem set9_at {W : World} {g : Nat} {y0 y1 y2 y3 y4 y5 y6 y7 y8 : Value} {t : TypeId} (h : W.heap[g]? = some (.cells #[y0, y1, y2, y3, y4, y5, y6, y7, y8] t)) (x0 x1 x2 x3 x4 x5 x6 x7 x8 : Value) :
    ((((((((((((((((((W).setCell ⟨g, 0, none⟩ x0)).setCell ⟨g, 1, none⟩ x1)).setCell ⟨g, 2, none⟩ x2)).setCell ⟨g, 3, none⟩ x3)).setCell ⟨g, 4, none⟩ x4)).setCell ⟨g, 5, none⟩ x5)).setCell ⟨g, 6, none⟩ x6)).setCell ⟨g, 7, none⟩ x7)).setCell ⟨g, 8, none⟩ x8).heap[g]? = some (.cells #[x0, x1, x2, x3, x4, x5, x6, x7, x8] t) := by
  have h0 := heap_setCell_same W g 0 _ t x0 h
  have h1 := heap_setCell_same _ g 1 _ t x1 h0
  have h2 := heap_setCell_same _ g 2 _ t x2 h1
  have h3 := heap_setCell_same _ g 3 _ t x3 h2
  have h4 := heap_setCell_same _ g 4 _ t x4 h3
  have h5 := heap_setCell_same _ g 5 _ t x5 h4
  have h6 := heap_setCell_same _ g 6 _ t x6 h5
  have h7 := heap_setCell_same _ g 7 _ t x7 h6
  have h8 := heap_setCell_same _ g 8 _ t x8 h7
  simpa using h8
theorem set9_other {W : World} {g k : Nat} (hn : k ≠ g) (x0 x1 x2 x3 x4 x5 x6 x7 x8 : Value) : ((((((((((((((((((W).setCell ⟨g, 0, none⟩ x0)).setCell ⟨g, 1, none⟩ x1)).setCell ⟨g, 2, none⟩ x2)).setCell ⟨g, 3, none⟩ x3)).setCell ⟨g, 4, none⟩ x4)).setCell ⟨g, 5, none⟩ x5)).setCell ⟨g, 6, none⟩ x6)).setCell ⟨g, 7, none⟩ x7)).setCell ⟨g, 8, none⟩ x8).heap[k]? = W.heap[k]? := by
  simp only [Below.heap_setCell _ _ _ k (show k ≠ (⟨g, _, none⟩ : Addr).block from hn)]
theorem Bu.set9 {b : Nat} {w W : World} (h : Bu b w W) {g : Nat} (hg : w.heap.size ≤ g) (x0 x1 x2 x3 x4 x5 x6 x7 x8 : Value) : Bu b w ((((((((((((((((((W).setCell ⟨g, 0, none⟩ x0)).setCell ⟨g, 1, none⟩ x1)).setCell ⟨g, 2, none⟩ x2)).setCell ⟨g, 3, none⟩ x3)).setCell ⟨g, 4, none⟩ x4)).setCell ⟨g, 5, none⟩ x5)).setCell ⟨g, 6, none⟩ x6)).setCell ⟨g, 7, none⟩ x7)).setCell ⟨g, 8, none⟩ x8) :=
  (((((((((h.setTop hg _ _).setTop hg _ _).setTop hg _ _).setTop hg _ _).setTop hg _ _).setTop hg _ _).setTop hg _ _).setTop hg _ _).setTop hg _ _)
theorem res_rule {fn : Func} {p : Tmp} (h : fn.results = #[.cell p 44]) {tmps : Array Value} {g : Nat} (hp : tmps.getD p undef = .pointer (some ⟨g, 0, none⟩)) {X : World} {x0 x1 x2 x3 x4 x5 x6 x7 x8 : Value} (hX : X.heap[g]? = some (.cells #[x0, x1, x2, x3, x4, x5, x6, x7, x8] 44)) :
    (results fn tmps).run Tryz.prog X = .ok (.agg #[x0, x1, x2, x3, x4, x5, x6, x7, x8]) X := by
  obtain ⟨k0, k1, k2, k3, k4, k5, k6, k7, k8⟩ := (cells9 hX).1
  have hp2 : tmps[p]?.getD undef = .pointer (some ⟨g, 0, none⟩) := by rw [← hp]; simp [Array.getD_eq_getD_getElem?]
  simp only [results, h]
  simp [hp2, go_sem, k0, k1, k2, k3, k4, k5, k6, k7, k8]
def RuleV (D : Nat → Prop) (w : World) (v : Value) (u : RU) : Prop :=
  ∃ x0 x1 x2 x3 x4 a c, v = .agg #[.string (strOfNums u.1), .int .i64 u.2.1, x0, x1, x2, x3, x4, .slice a u.2.2.2.1.length c, .int .i64 u.2.2.2.2] ∧ U.isBytes u.1 ∧ fits u.2.1 ∧ PartE D w (.agg #[x0, x1, x2, x3, x4]) u.2.2.1 ∧ Rs w a u.2.2.2.1.length c u.2.2.2.1 ∧ Ty w a ∧ fits u.2.2.2.2
theorem RuleV.kept {D D' : Nat → Prop} {w X : World} {v : Value} {u : RU} (h : RuleV D w v u) (k : ∀ g, D g → D' g ∧ X.heap[g]? = w.heap[g]?) (kr : KR w X) : RuleV D' X v u := by
  obtain ⟨x0, x1, x2, x3, x4, a, c, e, h1, h2, h3, h4, h5, h6⟩ := h
  obtain ⟨h4', h5'⟩ := rs_kr kr h4 h5
  exact ⟨x0, x1, x2, x3, x4, a, c, e, h1, h2, h3.kept k kr, h4', h5', h6⟩
theorem rule_bad1 {n k1 : Nat} {r r1 : List TN} (hM : marksL r = (k1, r1)) (h : kd r1 ≠ 0) : ruleL n r = .inl (pl r1, 3) := by
  unfold ruleL; simp only [hM]; rw [if_neg h]
theorem rule_many {n k1 : Nat} {r r1 : List TN} (hM : marksL r = (k1, r1)) (h : kd r1 = 0) (hn : n = 16) : ruleL n r = .inl (pl r1, 7) := by
  unfold ruleL; simp only [hM]; rw [if_pos h, if_pos hn]
theorem rule_bad2 {n k1 : Nat} {r r1 : List TN} (hM : marksL r = (k1, r1)) (h : kd r1 = 0) (hn : n ≠ 16) (hs : isS r1.tail 61 = false) : ruleL n r = .inl (pl r1.tail, 3) := by
  unfold ruleL; simp only [hM]; rw [if_pos h, if_neg hn, hs]; rfl
theorem rule_bad3 {n k1 : Nat} {r r1 : List TN} {e : Nat × Int} (hM : marksL r = (k1, r1)) (h : kd r1 = 0) (hn : n ≠ 16) (hs : isS r1.tail 61 = true) (ha : altL (grpD 12) r1.tail.tail = .inl e) : ruleL n r = .inl e := by
  unfold ruleL; simp only [hM]; rw [if_pos h, if_neg hn, if_pos hs, ha]
theorem rule_bad4 {n k1 : Nat} {r r1 r5 : List TN} {p : PT} {e : Nat × Int} (hM : marksL r = (k1, r1)) (h : kd r1 = 0) (hn : n ≠ 16) (hs : isS r1.tail 61 = true) (ha : altL (grpD 12) r1.tail.tail = .inr (p, r5)) (hN : notL r5 = .inl e) : ruleL n r = .inl e := by
  unfold ruleL; simp only [hM]; rw [if_pos h, if_neg hn, if_pos hs, ha]; simp only; rw [hN]
theorem rule_bad5 {n k1 : Nat} {r r1 r5 r6 : List TN} {p : PT} {N : List (Int × Int)} (hM : marksL r = (k1, r1)) (h : kd r1 = 0) (hn : n ≠ 16) (hs : isS r1.tail 61 = true) (ha : altL (grpD 12) r1.tail.tail = .inr (p, r5)) (hN : notL r5 = .inr (N, r6)) (h59 : isS r6 59 = false) : ruleL n r = .inl (pl r6, 3) := by
  unfold ruleL; simp only [hM]; rw [if_pos h, if_neg hn, if_pos hs, ha]; simp only; rw [hN]; simp only; rw [h59]; rfl
theorem rule_good {n k1 : Nat} {r r1 r5 r6 : List TN} {p : PT} {N : List (Int × Int)} (hM : marksL r = (k1, r1)) (h : kd r1 = 0) (hn : n ≠ 16) (hs : isS r1.tail 61 = true) (ha : altL (grpD 12) r1.tail.tail = .inr (p, r5)) (hN : notL r5 = .inr (N, r6)) (h59 : isS r6 59 = true) : ruleL n r = .inr ((tx r1, (k1 : Int), p, N, ((pl r1 : Nat) : Int)), r6.tail) := by
  unfold ruleL; simp only [hM]; rw [if_pos h, if_neg hn, if_pos hs, ha]; simp only; rw [hN]; simp only; rw [h59]; rfl
def URES (b G m : Nat) (d : Int) (n : Nat) (w : World) (x : Res RU) (e : Ending) (w' : World) : Prop :=
  (∃ v u r', x = .inr (u, r') ∧ e = .returned v ∧ RuleV (New w w') w' v u ∧ Ends r' ∧ r'.length < n ∧ Rd w' b G r' m d ∧ Bu b w w') ∨ (∃ q why, x = .inl (q, why) ∧ e = wrongE q why ∧ Bu b w w')
set_option maxRecDepth 20000 in
set_option maxHeartbeats 16000000 in
theorem rule_l (w : World) (b G : Nat) (r : List TN) (m n : Nat) (hn : n ≤ 16) (h : Rd w b G r m (dp 12)) (hr : Ends r) (hl : r.length ≤ 1000) (hm : Mq w m) :
    Calls Tryz.prog 50 #[.pointer (some ⟨b, 0, none⟩), .int .i64 (n : Int)] w (URES b G m (dp 12) r.length w (ruleL n r)) := by
  have hbl := h.lt
  have hGl := h.ltG
  have HB : ∀ o, Below w.heap.size w (w.alloc o) := fun o => Below.new1 o
  have CM := hideR (fun W (bW : Below w.heap.size w W) => marks_l W b G r m (dp 12) (h.later bW) hr)
  have HST := hideR (And.intro h.cells hm)
  have CA := hideR alt_c
  have CNT := hideR (fun W r1 (k : Rd W b G r1 m (dp 12)) (e : Ends r1) => not_l W b G r1 m (dp 12) k e)
  have CY := hideR (fun W r1 (k : Rd W b G r1 m (dp 12)) (e : Ends r1) (t : r1.tail ≠ []) k0 x hx hk => need_yes W b G r1 m (dp 12) k e t k0 x hx hk)
  have CX := hideR (fun W r1 (k : Rd W b G r1 m (dp 12)) (e : Ends r1) k0 x hx hk => need_no W b G r1 m (dp 12) k e k0 x hx hk)
  have CG1 := hideR (fun W => sign_l ⟨#[61]⟩ W)
  have CG2 := hideR (fun W => sign_l ⟨#[59]⟩ W)
  have e0 : strOfNums [] = ⟨#[]⟩ := rfl
  have e61 : strOfNums [61] = ⟨#[61]⟩ := rfl
  have e59 : strOfNums [59] = ⟨#[59]⟩ := rfl
  have NB : U.isBytes [] := fun z hz => by cases hz
  generalize hD0 : dp 12 = d0 at *
  have HD0 := hideR hD0
  generalize hM : marksL r = MM at *
  obtain ⟨k1, r1⟩ := MM
  have HM := hideR hM
  simp only at CM
  clear h hr hm hD0 hM
  go_enter Tryz.func50, Tryz.ntmps50
  go_wp2_with fail
  refine (unhideR CM _ (HB _)).mono ?_
  rintro e w1 ⟨rfl, hm63, E1, hl1, rd1, bu1⟩
  clear CM
  have BU1 := hideR ((Bu.of (HB _)).then bu1)
  have OUT1 := bu1.at (heap_alloc_new w _) (show w.heap.size ≠ b by omega)
  clear bu1
  by_cases h1 : kd r1 = 0
  case neg =>
    have FIN := hideR (rule_bad1 (n := n) (unhideR HM) h1)
    have CN := hideR (unhideR CX w1 r1 rd1 E1 0 [] NB (need_kind' (by decide) h1))
    rw [e0] at CN
    clear h1 CA CNT CY CX CG1 CG2 OUT1 rd1 E1 e0 e61 e59
    go_wp2_with fail
    refine (unhideR CN).mono ?_
    rintro e w2 ⟨rfl, bu2⟩
    clear CN
    unfold wrongE
    go_wp2_with fail
    exact ⟨rfl, .inr ⟨_, _, unhideR FIN, rfl, (unhideR BU1).then bu2⟩⟩
  have E2 := E1.tail (by rw [h1]; decide)
  have hr1 := tail_lt E1.ne
  have CN := hideR (unhideR CY w1 r1 rd1 E1 E2.ne 0 [] NB (need_kind (by decide) h1))
  rw [e0] at CN
  have HNB := hideR E1.bytes
  have HPL := hideR (fits_small E1.pl)
  have H1 := hideR h1
  clear h1 rd1 E1
  go_wp2_with fail
  refine (unhideR CN).mono ?_
  rintro e w2 ⟨v2, rfl, ⟨a2, c2, rfl, -, -⟩, rd2, bu2⟩
  clear CN
  have BU2 := hideR ((unhideR BU1).then bu2)
  have OUT2 := bu2.at OUT1 (show w.heap.size ≠ b by omega)
  clear OUT1 BU1 bu2
  by_cases hn16 : n = 16
  case pos =>
    have FIN := hideR (rule_many (unhideR HM) (unhideR H1) hn16)
    have n16 : ((n : Int) == 16) = true := by rw [hn16]; rfl
    clear CA CNT CY CX CG1 CG2 OUT2 rd2 E2 e0 e61 e59 hn16
    go_wp2_with fail
    exact ⟨rfl, .inr ⟨_, _, unhideR FIN, rfl, (unhideR BU2).alloc _⟩⟩
  have n16 : ((n : Int) == 16) = false := beq_eq_false_iff_ne.2 (by omega)
  have HN16 := hideR hn16
  have HB2 : ∀ o, Below w2.heap.size w2 (w2.alloc o) := fun o => Below.new1 o
  have hb2 := rd2.lt
  have s2 : w.heap.size < w2.heap.size := (Array.getElem?_eq_some_iff.1 OUT2).1
  clear hn16
  go_wp2_with fail
  refine (unhideR CG1 _).mono ?_
  rintro e w3 ⟨rfl, b3⟩
  clear CG1
  have T3 := kept_new b3
  have B3 := bthen (HB2 _) b3
  have rd3 := rd2.later B3
  have BU3 := hideR ((unhideR BU2).then (Bu.of B3))
  have OUT3 := (B3.block _ s2).trans OUT2
  clear rd2 BU2 OUT2 b3
  cases h61 : isS r1.tail 61 with
  | false =>
    have FIN := hideR (rule_bad2 (n := n) (unhideR HM) (unhideR H1) (unhideR HN16) h61)
    have CN := hideR (unhideR CX w3 r1.tail rd3 E2 4 [61] (small_bytes (by decide)) (need_sign' h61))
    rw [e61] at CN
    clear h61 CA CNT CY CX CG2 OUT3 rd3 E2 e0 e61 e59 T3
    go_wp2_with fail
    refine (unhideR CN).mono ?_
    rintro e w4 ⟨rfl, bu4⟩
    clear CN
    unfold wrongE
    go_wp2_with fail
    exact ⟨rfl, .inr ⟨_, _, unhideR FIN, rfl, (unhideR BU3).then bu4⟩⟩
  | true =>
    have E3 := E2.sign h61
    have hr2 := tail_lt E2.ne
    have CN := hideR (unhideR CY w3 r1.tail rd3 E2 E3.ne 4 [61] (small_bytes (by decide)) (need_sign h61))
    rw [e61] at CN
    have H61 := hideR h61
    clear h61 rd3 E2
    go_wp2_with fail
    refine (unhideR CN).mono ?_
    rintro e w4 ⟨v4, rfl, tv4, rd4, bu4⟩
    clear CN tv4
    have BU4 := hideR ((unhideR BU3).then bu4)
    have OUT4 := bu4.at OUT3 (show w.heap.size ≠ b by omega)
    have T4 := bu4.at T3 (show w2.heap.size ≠ b by omega)
    have s4 : w2.heap.size < w4.heap.size := (Array.getElem?_eq_some_iff.1 T4).1
    have MQ4 : Mq w4 m := (unhideR HST).2.bu (unhideR BU4) (unhideR HST).1.choose_spec.1
    have CAL := hideR (unhideR CA w4 b G r1.tail.tail m (by rw [unhideR HD0]; exact rd4) E3 (by omega) MQ4)
    rw [unhideR HD0] at CAL
    clear OUT3 T3 BU3 bu4 rd4 MQ4 CA
    go_wp2_with fail
    refine (unhideR CAL).mono ?_
    clear CAL
    rintro e w5 (⟨v5, p5, r5, eg, rfl, pe5, E5, hl5, rd5, bu5⟩ | ⟨q5, y5, eg, rfl, bu5⟩)
    case inr =>
      have FIN := hideR (rule_bad3 (n := n) (unhideR HM) (unhideR H1) (unhideR HN16) (unhideR H61) eg)
      clear CNT CY CX CG2 OUT4 T4 E3 e0 e61 e59 eg
      unfold wrongE
      go_wp2_with fail
      exact ⟨rfl, .inr ⟨_, _, unhideR FIN, rfl, (unhideR BU4).then bu5⟩⟩
    have HEG := hideR eg
    have BU5 := hideR ((unhideR BU4).then bu5)
    have OUT5 := bu5.at OUT4 (show w.heap.size ≠ b by omega)
    have T5 := bu5.at T4 (show w2.heap.size ≠ b by omega)
    have s5 := bu5.size
    have PE5 := hideR pe5
    obtain ⟨x1, x2, x3, x4, x5, x6, x7, x8, x9, rfl, -⟩ := pe5.form
    have HB5 : ∀ o, Below w5.heap.size w5 (w5.alloc o) := fun o => Below.new1 o
    have rdA := rd5.later (HB5 (.cells #[.int .i64 x1, .string x2, .slice x3 x4 x5, .slice x6 x7 x8, .int .i64 x9] 42))
    have CNN := hideR (unhideR CNT _ r5 rdA E5)
    have OUTA := old_at OUT5 (.cells #[.int .i64 x1, .string x2, .slice x3 x4 x5, .slice x6 x7 x8, .int .i64 x9] 42)
    have TA := old_at T5 (.cells #[.int .i64 x1, .string x2, .slice x3 x4 x5, .slice x6 x7 x8, .int .i64 x9] 42)
    have PA := heap_alloc_new w5 (.cells #[.int .i64 x1, .string x2, .slice x3 x4 x5, .slice x6 x7 x8, .int .i64 x9] 42)
    have hrc5 := hideR rd5.cells
    have BUA := hideR ((unhideR BU5).alloc (.cells #[.int .i64 x1, .string x2, .slice x3 x4 x5, .slice x6 x7 x8, .int .i64 x9] 42))
    have hb5 := rd5.lt
    clear pe5 rd5 bu5 eg OUT4 T4 OUT5 T5 BU4 BU5 rdA CNT
    go_wp2_with fail
    refine (unhideR CNN).mono ?_
    clear CNN
    rintro e w6 (⟨aN, cN, N, r6, en, rfl, hrs, hys, E6, hl6, rd6, bu6⟩ | ⟨q6, y6, en, rfl, bu6⟩)
    case inr =>
      have FIN := hideR (rule_bad4 (n := n) (unhideR HM) (unhideR H1) (unhideR HN16) (unhideR H61) (unhideR HEG) en)
      clear CY CX CG2 OUTA TA PA E3 e0 e61 e59 en
      unfold wrongE
      go_wp2_with fail
      exact ⟨rfl, .inr ⟨_, _, unhideR FIN, rfl, (unhideR BUA).then bu6⟩⟩
    have HEN := hideR en
    have BU6 := hideR ((unhideR BUA).then bu6)
    have OUT6 := bu6.at OUTA (show w.heap.size ≠ b by omega)
    have T6 := bu6.at TA (show w2.heap.size ≠ b by omega)
    have P6 := bu6.at PA (show w5.heap.size ≠ b by omega)
    have s6 := bu6.size
    rw [World.size_alloc] at s6
    have HRS := hideR (And.intro hrs hys)
    have HBU6 := hideR bu6
    have hb6 := rd6.lt
    clear OUTA TA PA BUA bu6 en hrs hys
    go_wp2_with fail
    refine (unhideR CG2 _).mono ?_
    rintro e w7 ⟨rfl, b7⟩
    clear CG2
    have rd7 := rd6.later b7
    have BU7 := hideR ((unhideR BU6).then (Bu.of b7))
    have OUT7 := (b7.block _ (Array.getElem?_eq_some_iff.1 OUT6).1).trans OUT6
    have T7 := (b7.block _ (Array.getElem?_eq_some_iff.1 T6).1).trans T6
    have P7 := (b7.block _ (Array.getElem?_eq_some_iff.1 P6).1).trans P6
    have hrc6 := hideR rd6.cells
    clear OUT6 T6 P6 BU6 rd6
    cases h59 : isS r6 59 with
    | false =>
      have FIN := hideR (rule_bad5 (n := n) (unhideR HM) (unhideR H1) (unhideR HN16) (unhideR H61) (unhideR HEG) (unhideR HEN) h59)
      have CN := hideR (unhideR CX w7 r6 rd7 E6 4 [59] (small_bytes (by decide)) (need_sign' h59))
      rw [e59] at CN
      clear h59 CY CX OUT7 T7 P7 rd7 E6 e0 e61 e59
      go_wp2_with fail
      refine (unhideR CN).mono ?_
      rintro e w8 ⟨rfl, bu8⟩
      clear CN
      unfold wrongE
      go_wp2_with fail
      exact ⟨rfl, .inr ⟨_, _, unhideR FIN, rfl, (unhideR BU7).then bu8⟩⟩
    | true =>
      have FIN := hideR (rule_good (n := n) (unhideR HM) (unhideR H1) (unhideR HN16) (unhideR H61) (unhideR HEG) (unhideR HEN) h59)
      have E7 := E6.sign h59
      have hr6 := tail_lt E6.ne
      have CN := hideR (unhideR CY w7 r6 rd7 E6 E7.ne 4 [59] (small_bytes (by decide)) (need_sign h59))
      rw [e59] at CN
      have HE7 := hideR E7
      clear h59 CY CX rd7 E6 e0 e61 e59 E7 E3 E5
      go_wp2_with fail
      refine (unhideR CN).mono ?_
      rintro e w8 ⟨v8, rfl, tv8, rd8, bu8⟩
      clear CN tv8
      have BU8 := hideR ((unhideR BU7).then bu8)
      have OUT8 := bu8.at OUT7 (show w.heap.size ≠ b by omega)
      have T8 := bu8.at T7 (show w2.heap.size ≠ b by omega)
      have P8 := bu8.at P7 (show w5.heap.size ≠ b by omega)
      have s7 := b7.size
      have s8 := bu8.size
      obtain ⟨⟨t0, t1, t2, t3⟩, -⟩ := cells4 T8
      obtain ⟨⟨p0, p1, p2, p3, p4⟩, -⟩ := cells5 P8
      obtain ⟨⟨o0, o1, o2, o3, o4, o5, o6, o7, o8⟩, f0, f1, f2, f3, f4, f5, f6, f7, f8⟩ := cells9 OUT8
      clear OUT7 T7 P7 BU7
      generalize hSX : strOfNums (tx r1) = SX at *
      have HSX := hideR hSX
      clear hSX
      go_wp2_with fail
      (try simp only [Exit.inBlock, Exit.then])
      have X9 := fun (k : Nat) (hk : k ≠ w.heap.size) => set9_other (W := w8) hk (.string SX) (.int .i64 (k1 : Int)) (.int .i64 x1) (.string x2) (.slice x3 x4 x5) (.slice x6 x7 x8) (.int .i64 x9) (.slice aN N.length cN) (.int .i64 (pl r1 : Nat))
      have KX : KR w8 ((((((((((((((((((w8).setCell ⟨w.heap.size, 0, none⟩ (.string SX))).setCell ⟨w.heap.size, 1, none⟩ (.int .i64 (k1 : Int)))).setCell ⟨w.heap.size, 2, none⟩ (.int .i64 x1))).setCell ⟨w.heap.size, 3, none⟩ (.string x2))).setCell ⟨w.heap.size, 4, none⟩ (.slice x3 x4 x5))).setCell ⟨w.heap.size, 5, none⟩ (.slice x6 x7 x8))).setCell ⟨w.heap.size, 6, none⟩ (.int .i64 x9))).setCell ⟨w.heap.size, 7, none⟩ (.slice aN N.length cN))).setCell ⟨w.heap.size, 8, none⟩ (.int .i64 (pl r1 : Nat))) := fun g' cs fr hk => by
        rw [X9 g' (type_ne hk OUT8 (by decide))]; exact hk
      have K68 : KR w6 w8 := (KR.of b7).then (KR.bu bu8 ((b7.block b hb6).trans (unhideR hrc6).choose_spec.1) (by decide))
      have K58 : KR w5 w8 := ((KR.of (HB5 _)).then (KR.bu (unhideR HBU6) (((HB5 _).block b hb5).trans (unhideR hrc5).choose_spec.1) (by decide))).then K68
      refine bodyPost_ret (v := .agg #[(.string SX), (.int .i64 (k1 : Int)), (.int .i64 x1), (.string x2), (.slice x3 x4 x5), (.slice x6 x7 x8), (.int .i64 x9), (.slice aN N.length cN), (.int .i64 (pl r1 : Nat))]) ?_ rfl (.inl ⟨_, _, r6.tail, unhideR FIN, rfl, ⟨.int .i64 x1, .string x2, .slice x3 x4 x5, .slice x6 x7 x8, .int .i64 x9, aN, cN, by rw [unhideR HSX], unhideR HNB, (show fits (k1 : Int) by unfold fits; omega), ?_, (rs_kr (K68.then KX) (unhideR HRS).1 (unhideR HRS).2).1, (rs_kr (K68.then KX) (unhideR HRS).1 (unhideR HRS).2).2, unhideR HPL⟩, unhideR HE7, by omega, ?_, ?_⟩)
      · exact res_rule rfl rfl (set9_at OUT8 _ _ _ _ _ _ _ _ _)
      · refine (unhideR PE5).kept (fun g hg => ⟨⟨by have := hg.1; omega, by simp; have := hg.2; omega⟩, ?_⟩) (K58.then KX)
        obtain ⟨g1, g2⟩ := hg
        rw [X9 g (by omega), bu8.block g (by omega) (fun e => by injection e; omega), b7.block g (by omega), (unhideR HBU6).block g (by rw [World.size_alloc]; omega) (fun e => by injection e; omega), (HB5 _).block g g2]
      · exact rd8.kept (X9 b (by omega)) (X9 G (by omega)) KX
      · exact (unhideR BU8).set9 (Nat.le_refl _) _ _ _ _ _ _ _ _ _
end Go.Proofs.YtamefbpdnblbdaaGreatDoor.R

namespace Go.Proofs.YtamefbpdnblbdaaGreatDoor.R
open Go.RowKit Go.Proofs.YtamefbpdnblbdaaGreatDoor.T
set_option linter.unusedVariables false
set_option linter.unusedSimpArgs false

def RuC (PV : Value → RU → Prop) : List RU → List Value → Prop
  | [], cs => cs = []
  | p :: ps, cs => ∃ x0 x1 x2 x3 x4 x5 x6 x7 x8 cs', cs = x0 :: x1 :: x2 :: x3 :: x4 :: x5 :: x6 :: x7 :: x8 :: cs' ∧ PV (.agg #[x0, x1, x2, x3, x4, x5, x6, x7, x8]) p ∧ RuC PV ps cs'
theorem RuC.mono {P Q : Value → RU → Prop} (h : ∀ v p, P v p → Q v p) : ∀ (ps : List RU) (cs : List Value), RuC P ps cs → RuC Q ps cs := by
  intro ps
  induction ps with
  | nil => intro cs hc; exact hc
  | cons x ps ih =>
    intro cs hc
    obtain ⟨x0, x1, x2, x3, x4, x5, x6, x7, x8, cs', e, hv, hr⟩ := hc
    exact ⟨x0, x1, x2, x3, x4, x5, x6, x7, x8, cs', e, h _ _ hv, ih _ hr⟩
theorem RuC.snoc {P : Value → RU → Prop} {p : RU} {x0 x1 x2 x3 x4 x5 x6 x7 x8 : Value} (hv : P (.agg #[x0, x1, x2, x3, x4, x5, x6, x7, x8]) p) : ∀ (ps : List RU) (cs : List Value), RuC P ps cs → RuC P (ps ++ [p]) (cs ++ [x0, x1, x2, x3, x4, x5, x6, x7, x8]) := by
  intro ps
  induction ps with
  | nil =>
    intro cs hc
    have : cs = [] := hc
    subst this
    exact ⟨x0, x1, x2, x3, x4, x5, x6, x7, x8, [], rfl, hv, rfl⟩
  | cons x ps ih =>
    intro cs hc
    obtain ⟨d0, d1, d2, d3, d4, d5, d6, d7, d8, cs', e, hv', hr⟩ := hc
    exact ⟨d0, d1, d2, d3, d4, d5, d6, d7, d8, cs' ++ [x0, x1, x2, x3, x4, x5, x6, x7, x8], by rw [e]; rfl, hv', ih _ hr⟩
def RulesE (D : Nat → Prop) (w : World) (a : Option Addr) (len cap : Nat) (l : List RU) : Prop := ∃ cs, l.length = len ∧ Row5 D w a len cap cs ∧ RuC (RuleV D w) l cs
def FileV (D : Nat → Prop) (w : World) (v : Value) (f : List (List Int) × List RU) : Prop :=
  ∃ aK cK aR cR, v = .agg #[.slice aK f.1.length cK, .slice aR f.2.length cR] ∧ Ss D w aK f.1.length cK f.1 ∧ RulesE D w aR f.2.length cR f.2
theorem own_row {w : World} {base sz : Nat} {T : TypeId} {a : Option Addr} {n c : Nat} {cs : List Value} (h : w.ownsRow base T sz (.slice a n c) n cs) (D : Nat → Prop) (hD : ∀ g, base ≤ g → g < w.heap.size → D g) : Row5 D w a n c cs := by
  rcases h.2 with ⟨e, h0⟩ | ⟨g, cap, cur, e, hb, hg, hn, hm, hs, ht⟩
  · injection e with e1 e2 e3
    subst e1; subst e3
    have : cs = [] := List.eq_nil_of_length_eq_zero (by rw [h.1, h0]; simp)
    subst this
    exact ⟨by omega, Nat.zero_le _, fun j u hu => by simp at hu⟩
  · injection e with e1 e2 e3
    subst e1; subst e3
    refine ⟨hn, hm, fun j u hu => ⟨g, 0, rfl, hD g hb (Array.getElem?_eq_some_iff.1 hg).1, ?_⟩⟩
    rw [Nat.zero_add]
    simp only [World.cell?, hg]
    have hj : j < cs.length := (List.getElem?_eq_some_iff.1 hu).1
    rw [← ht] at hu
    rw [List.getElem?_take_of_lt (by rw [h.1] at hj; omega)] at hu
    simpa using hu
structure Bu2 (b F : Nat) (w w' : World) : Prop where
  os : w'.os = w.os
  tape : w'.tape = w.tape
  output : w'.output = w.output
  size : w.heap.size ≤ w'.heap.size
  block : ∀ k, k < w.heap.size → k ≠ b → k ≠ F → w'.heap[k]? = w.heap[k]?
theorem Bu2.refl (b F : Nat) (w : World) : Bu2 b F w w := ⟨rfl, rfl, rfl, Nat.le_refl _, fun _ _ _ _ => rfl⟩
theorem Bu2.bu {b F : Nat} {w W X : World} (h : Bu b w W) (k : Bu2 b F W X) (hF : w.heap.size ≤ F) : Bu b w X :=
  ⟨k.os.trans h.os, k.tape.trans h.tape, k.output.trans h.output, Nat.le_trans h.size k.size, fun i hi hn => (k.block i (Nat.lt_of_lt_of_le hi h.size) (fun e => hn (by rw [e])) (by omega)).trans (h.block i hi hn)⟩
def OwnE (w wr : World) (v : Value) : Nat → Prop := fun g => w.heap.size ≤ g ∧ g < wr.heap.size ∧ some g ≠ v.ownBlock
structure RowR (b G m F : Nat) (d : Int) (w2 : World) (kv : Value) (acc : List RU) (rr : List TN) (v : Value) (cs : List Value) (wr : World) : Prop where
  he : Ends rr
  rd : Rd wr b G rr m d
  mq : Mq wr m
  own : wr.ownsRow w2.heap.size 44 9 v acc.length cs
  pts : RuC (RuleV (OwnE w2 wr v) wr) acc cs
  bu : Bu2 b F w2 wr
  fb : wr.heap[F]? = some (.cells #[kv, v] 26)
theorem RowR.snoc {b G m F : Nat} {d : Int} {w2 wr w3 w4 w5 : World} {kv : Value} {acc : List RU} {rr r4 : List TN} {v : Value} {cs : List Value} (h : RowR b G m F d w2 kv acc rr v cs wr) (hb : b < w2.heap.size) (hG : G < w2.heap.size) (hF : F < w2.heap.size) (hbF : b ≠ F) (hGF : G ≠ F)
    (b3 : Below wr.heap.size wr w3) (bu4 : Bu b w3 w4) (he : Ends r4) (rd4 : Rd w4 b G r4 m d) {u : RU} {x0 x1 x2 x3 x4 x5 x6 x7 x8 : Value} (hp : RuleV (New w3 w4) w4 (.agg #[x0, x1, x2, x3, x4, x5, x6, x7, x8]) u) {o : Obj} {gg cap : Nat}
    (ho : w5.ownsRow w2.heap.size 44 9 (.slice (some ⟨gg, 0, none⟩) (acc.length + 1) cap) (acc.length + 1) (cs ++ [x0, x1, x2, x3, x4, x5, x6, x7, x8])) (hg : (w4.alloc o).grownBy w5 v.ownBlock) (hat : v.ownBlock = some gg ∨ gg = (w4.alloc o).heap.size) :
    RowR b G m F d w2 kv (acc ++ [u]) r4 (.slice (some ⟨gg, 0, none⟩) (acc.length + 1) cap) (cs ++ [x0, x1, x2, x3, x4, x5, x6, x7, x8]) (w5.setCell ⟨F, 1, none⟩ (.slice (some ⟨gg, 0, none⟩) (acc.length + 1) cap)) := by
  obtain ⟨-, rd, mq, own, pts, bu, fb⟩ := h
  have s0 := bu.size
  have s3 := b3.size
  have s4 := bu4.size
  have lo : ∀ k, v.ownBlock = some k → w2.heap.size ≤ k ∧ k < wr.heap.size := own.lt
  have sA : (w4.alloc o).heap.size = w4.heap.size + 1 := by simp
  have s5 := hg.size
  have hgg : w2.heap.size ≤ gg := by
    rcases hat with h1 | h1
    · exact (lo gg h1).1
    · omega
  have sc : ∀ g, g ≠ F → (w5.setCell ⟨F, 1, none⟩ (.slice (some ⟨gg, 0, none⟩) (acc.length + 1) cap)).heap[g]? = w5.heap[g]? := fun g hn => Below.heap_setCell w5 ⟨F, 1, none⟩ _ g hn
  have st : ∀ g, g < wr.heap.size → g ≠ b → some g ≠ v.ownBlock → w5.heap[g]? = wr.heap[g]? := fun g h1 h2 h3 => by
    rw [hg.block g (by omega) h3, (Below.new1 o).block g (by omega), bu4.block g (by omega) (fun e => h2 (by injection e)), b3.block g h1]
  have st4 : ∀ g, w3.heap.size ≤ g → g < w4.heap.size → w5.heap[g]? = w4.heap[g]? := fun g h1 h2 => by
    rw [hg.block g (by omega) (fun e => by have := (lo g e.symm).2; omega), (Below.new1 o).block g h2]
  obtain ⟨rc, hrc, -⟩ := rd.cells
  have krA : KR w4 w5 := by
    refine (KR.of (Below.new1 o)).then (KR.grown hg fun k hk => ?_)
    obtain ⟨cs', hc⟩ := own_str own k hk
    have hkb : k ≠ b := by have := (lo k hk).1; omega
    exact ⟨cs', 44, _, old_at (bu4.at ((b3.block k (lo k hk).2).trans hc) hkb) o, by decide⟩
  have krB : KR wr w4 := (KR.of b3).then (KR.bu bu4 ((b3.block b (by omega)).trans hrc) (by decide))
  have nbo : some b ≠ v.ownBlock := fun e => by have := (lo b e.symm).1; omega
  have nGo : some G ≠ v.ownBlock := fun e => by have := (lo G e.symm).1; omega
  have nFo : some F ≠ v.ownBlock := fun e => by have := (lo F e.symm).1; omega
  have fb5 : w5.heap[F]? = some (.cells #[kv, v] 26) := (st F (by omega) (fun e => hbF e.symm) nFo).trans fb
  have krC : KR w5 (w5.setCell ⟨F, 1, none⟩ (.slice (some ⟨gg, 0, none⟩) (acc.length + 1) cap)) := fun g cs' fr' hk => by
    rw [sc g (type_ne hk fb5 (by decide))]; exact hk
  refine ⟨he, ?_, ?_, ?_, ?_, ?_, ?_⟩
  · refine rd4.kept ?_ ?_ (krA.then krC)
    · rw [sc b hbF, hg.block b (by omega) nbo, (Below.new1 o).block b (by omega)]
    · rw [sc G hGF, hg.block G (by omega) nGo, (Below.new1 o).block G (by omega)]
  · refine mq.kept fun ob h1 h2 => ?_
    have hm := (Array.getElem?_eq_some_iff.1 h1).1
    have ne : ∀ k cs t fr, wr.heap[k]? = some (.cells cs t fr) → m ≠ k := fun k cs t fr hk e => by
      subst e; rw [hk] at h1; injection h1 with h1; exact h2 _ _ _ h1.symm
    rw [sc m (ne F _ _ _ fb), st m hm (ne b _ _ _ hrc) (fun e => by
      obtain ⟨cs', hc⟩ := own_str own m e.symm
      exact ne m _ _ _ hc rfl)]
    exact h1
  · rw [List.length_append]
    exact ho.kept (w' := w5.setCell ⟨F, 1, none⟩ (.slice (some ⟨gg, 0, none⟩) (acc.length + 1) cap)) (row := some F) (Bu.set F 1 w5 _) (.inr (by simp only [Value.ownBlock, ne_eq, Option.some.injEq]; omega))
  · refine RuC.snoc (P := RuleV (OwnE w2 (w5.setCell ⟨F, 1, none⟩ (.slice (some ⟨gg, 0, none⟩) (acc.length + 1) cap)) (.slice (some ⟨gg, 0, none⟩) (acc.length + 1) cap)) (w5.setCell ⟨F, 1, none⟩ (.slice (some ⟨gg, 0, none⟩) (acc.length + 1) cap))) ?_ acc cs (RuC.mono (fun u q hq => ?_) _ _ pts)
    · refine hp.kept (fun g hg' => ⟨⟨by have := hg'.1; omega, by simp; have := hg'.2; omega, ?_⟩, ?_⟩) (krA.then krC)
      · intro e
        simp only [Value.ownBlock, Option.some.injEq] at e
        rcases hat with h1 | h1
        · have := (lo gg h1).2; have := hg'.1; omega
        · have := hg'.2; omega
      · rw [sc g (by have := hg'.1; omega)]; exact st4 g hg'.1 hg'.2
    · refine hq.kept (fun g hg' => ⟨⟨hg'.1, by simp; have := hg'.2.1; omega, ?_⟩, ?_⟩) ((krB.then krA).then krC)
      · intro e
        simp only [Value.ownBlock, Option.some.injEq] at e
        rcases hat with h1 | h1
        · exact hg'.2.2 (by rw [h1, e])
        · have := hg'.2.1; omega
      · rw [sc g (by have := hg'.1; omega)]; exact st g hg'.2.1 (by have := hg'.1; omega) hg'.2.2
  · refine ⟨?_, ?_, ?_, by simp; omega, fun k hk h1 h2 => ?_⟩
    · exact hg.os.trans (bu4.os.trans (b3.os.trans bu.os))
    · exact hg.tape.trans (bu4.tape.trans (b3.tape.trans bu.tape))
    · exact hg.output.trans (bu4.output.trans (b3.output.trans bu.output))
    · rw [sc k h2, st k (by omega) h1 (fun e => by have := (lo k e.symm).1; omega)]
      exact bu.block k hk h1 h2
  · have := heap_setCell_same w5 F 1 _ _ (.slice (some ⟨gg, 0, none⟩) (acc.length + 1) cap) fb5
    simpa using this
theorem rule_info : (Tryz.prog.info? 44).map (fun i => (i.zero, i.size, i.bytes)) = some (some (.agg #[.string ⟨#[]⟩, .int .i64 0, .int .i64 0, .string ⟨#[]⟩, .slice none 0 0, .slice none 0 0, .int .i64 0, .slice none 0 0, .int .i64 0]), 9, 136) := by kernel_rfl
theorem new_rule (w : World) (n : Nat) (x0 x1 x2 x3 x4 x5 x6 x7 x8 : Value) (hn : n = w.heap.size) : ∀ (j : Nat) (u : Value), [x0, x1, x2, x3, x4, x5, x6, x7, x8][j]? = some u → (w.alloc (.cells #[x0, x1, x2, x3, x4, x5, x6, x7, x8] 44)).cell? ((⟨n, 0, none⟩ : Addr).add j) = some u := by
  subst hn
  exact World.news_of_block (cs := #[x0, x1, x2, x3, x4, x5, x6, x7, x8]) (t := 44) (fr := (0, 0)) (heap_alloc_new w _)
theorem rulesF_end {f : Nat} {acc : List RU} {r : List TN} (ha : acc ≠ []) (h : kd r = -1) : rulesF (f + 1) acc r = .inr (acc, r) := by
  unfold rulesF
  rw [if_pos ⟨ha, h⟩]
theorem rulesF_more {f : Nat} {acc : List RU} {r r1 : List TN} {u : RU} (h : acc = [] ∨ kd r ≠ -1) (hu : ruleL acc.length r = .inr (u, r1)) : rulesF (f + 1) acc r = rulesF f (acc ++ [u]) r1 := by
  conv => lhs; unfold rulesF
  rw [if_neg (by rintro ⟨h1, h2⟩; rcases h with h | h; exact h1 h; exact h h2), hu]
theorem rulesF_bad {f : Nat} {acc : List RU} {r : List TN} {e : Nat × Int} (h : acc = [] ∨ kd r ≠ -1) (hu : ruleL acc.length r = .inl e) : rulesF (f + 1) acc r = .inl e := by
  unfold rulesF
  rw [if_neg (by rintro ⟨h1, h2⟩; rcases h with h | h; exact h1 h; exact h h2), hu]
theorem rule_most {n : Nat} {r r1 : List TN} {u : RU} (h : ruleL n r = .inr (u, r1)) : n ≠ 16 := by
  intro hn
  unfold ruleL at h
  simp only at h
  split at h
  · first | cases h | (rw [if_pos hn] at h; cases h)
  · cases h
end Go.Proofs.YtamefbpdnblbdaaGreatDoor.R

