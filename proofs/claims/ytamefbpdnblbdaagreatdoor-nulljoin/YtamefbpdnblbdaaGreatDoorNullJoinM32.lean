/- Parts of the proof of NullJoin that stand ahead of it (32: RdFile, FlRule, FlBegin, FlRules, RdInv). -/
import Derived.Test.YtamefbpdnblbdaaGreatDoorNullJoinM31
import Derived.Test.YtamefbpdnblbdaaGreatDoorNullJoinM30
import Derived.Test.YtamefbpdnblbdaaGreatDoorNullJoinM29
namespace Go.Proofs.YtamefbpdnblbdaaGreatDoor.R
open Go.RowKit Go.Proofs.YtamefbpdnblbdaaGreatDoor.T
set_option linter.unusedVariables false
set_option linter.unusedSimpArgs false

theorem RuleV.form {D : Nat → Prop} {w : World} {v : Value} {u : RU} (h : RuleV D w v u) : ∃ z0 z1 z2 z3 z4 z5 z6 z7 z8 z9 z10 z11 z12 z13 z14, v = .agg #[.string z0, .int .i64 z1, .int .i64 z2, .string z3, .slice z4 z5 z6, .slice z7 z8 z9, .int .i64 z10, .slice z11 z12 z13, .int .i64 z14] := by
  obtain ⟨x0, x1, x2, x3, x4, a, c, e, h1, h2, h3, h4, h5, h6⟩ := h
  obtain ⟨y1, y2, y3, y4, y5, y6, y7, y8, y9, ev, -⟩ := h3.form
  simp only [Value.agg.injEq, Array.mk.injEq, List.cons.injEq, and_true] at ev
  obtain ⟨rfl, rfl, rfl, rfl, rfl⟩ := ev
  exact ⟨_, _, _, _, _, _, _, _, _, _, _, _, _, _, _, e⟩
theorem res_file {fn : Func} {p : Tmp} (h : fn.results = #[.cell p 26]) {tmps : Array Value} {g : Nat} (hp : tmps.getD p undef = .pointer (some ⟨g, 0, none⟩)) {X : World} {x0 x1 : Value} (hX : X.heap[g]? = some (.cells #[x0, x1] 26)) :
    (results fn tmps).run Tryz.prog X = .ok (.agg #[x0, x1]) X := by
  obtain ⟨k0, k1⟩ := (cells2f hX).1
  have hp2 : tmps[p]?.getD undef = .pointer (some ⟨g, 0, none⟩) := by rw [← hp]; simp [Array.getD_eq_getD_getElem?]
  simp only [results, h]
  simp [hp2, go_sem, k0, k1]
def FRES (b : Nat) (w : World) (x : Sum (Nat × Int) (List (List Int) × List RU)) (e : Ending) (w' : World) : Prop :=
  (∃ v f, x = .inr f ∧ e = .returned v ∧ FileV (New w w') w' v f ∧ Bu b w w') ∨ (∃ q why, x = .inl (q, why) ∧ e = wrongE q why ∧ Bu b w w')
set_option maxRecDepth 20000 in
set_option maxHeartbeats 16000000 in
theorem file_l (w : World) (b G : Nat) (r : List TN) (m : Nat) (h : Rd w b G r m (dp 12)) (hr : Ends r) (hl : r.length ≤ 1000) (hm : Mq w m) :
    Calls Tryz.prog 27 #[.pointer (some ⟨b, 0, none⟩)] w (FRES b w (fileT r)) := by
  have hbl := h.lt
  have hGl := h.ltG
  have HB : ∀ o, Below w.heap.size w (w.alloc o) := fun o => Below.new1 o
  have CK := hideR (fun W (bW : Below w.heap.size w W) => keys_l W b G r m (dp 12) (h.later bW) hr)
  have HST := hideR (And.intro h.cells hm)
  have CR := hideR (fun W r1 (n : Nat) (hn : n ≤ 16) (k : Rd W b G r1 m (dp 12)) (e : Ends r1) (l : r1.length ≤ 1000) (q : Mq W m) => rule_l W b G r1 m n hn k e l q)
  have e0 : strOfNums [] = ⟨#[]⟩ := rfl
  generalize hD0 : dp 12 = d0 at *
  clear h hr hm hD0
  go_enter Tryz.func27, Tryz.ntmps27
  go_wp2_with fail
  refine (unhideR CK _ (HB _)).mono ?_
  clear CK
  rintro e w1 (⟨aK, cK, KL, r1, ek, rfl, ssK, hK8, E1, hl1, rd1, bu1⟩ | ⟨q1, y1, ek, rfl, bu1⟩)
  case inr =>
    have FIN : Hid (fileT r = .inl (q1, y1)) := by show _ = _; unfold fileT; rw [ek]
    clear ek CR
    unfold wrongE
    go_wp2_with fail
    exact ⟨rfl, .inr ⟨q1, y1, unhideR FIN, rfl, (Bu.of (HB _)).then bu1⟩⟩
  have ST : Hid (fileT r = match rulesF (r.length + 1) [] r1 with | .inl e => .inl e | .inr (l, _) => .inr (KL, l)) := by show _ = _; unfold fileT; rw [ek]; rfl
  have BU1 := hideR ((Bu.of (HB _)).then bu1)
  have OUT1 := bu1.at (heap_alloc_new w _) (show w.heap.size ≠ b by omega)
  have s1 : w.heap.size < w1.heap.size := (Array.getElem?_eq_some_iff.1 OUT1).1
  have MQ1 : Mq w1 m := (unhideR HST).2.bu (unhideR BU1) (unhideR HST).1.choose_spec.1
  have SSK := hideR ssK
  generalize hF : w1.heap.size = F at *
  have BN := Below.new1 (w := w1) (.cells #[.slice aK KL.length cK, .slice none 0 0] 26)
  have RI : Hid (RowR b G m F d0 (w1.alloc (.cells #[.slice aK KL.length cK, .slice none 0 0] 26)) (.slice aK KL.length cK) [] r1 (.slice none 0 0) [] (w1.alloc (.cells #[.slice aK KL.length cK, .slice none 0 0] 26))) :=
    ⟨E1, rd1.later BN, MQ1.later BN, World.ownsRow_nil _ _ _ _, rfl, Bu2.refl _ _ _, by rw [← hF]; exact heap_alloc_new _ _⟩
  have BU2 := hideR ((unhideR BU1).alloc (.cells #[.slice aK KL.length cK, .slice none 0 0] 26))
  have OUT2 := hideR (old_at OUT1 (.cells #[.slice aK KL.length cK, .slice none 0 0] 26))
  have sW2 : (w1.alloc (.cells #[.slice aK KL.length cK, .slice none 0 0] 26)).heap.size = F + 1 := by rw [World.size_alloc, hF]
  have SS2 : Hid (Ss (fun g => w.heap.size < g ∧ g < F) (w1.alloc (.cells #[.slice aK KL.length cK, .slice none 0 0] 26)) aK KL.length cK KL) := by
    refine Ss.kept (unhideR SSK) fun g hg => ⟨⟨?_, ?_⟩, BN.block g (by have := hg.2; omega)⟩
    · have := hg.1; rw [World.size_alloc] at this; omega
    · have := hg.2; omega
  clear ek ssK rd1 E1 MQ1 OUT1 bu1 BU1 SSK HST BN
  go_wp2_with fail
  generalize hW2 : w1.alloc (.cells #[.slice aK KL.length cK, .slice none 0 0] 26) = w2 at *
  clear hW2
  go_loopw [] (fun wr => Hid (∃ (acc : List RU) (rr : List TN) (f : Nat) (cs : List Value) (v : Value), rulesF (r.length + 1) [] r1 = rulesF f acc rr ∧ rr.length + 1 ≤ f ∧ rr.length ≤ r.length ∧ acc.length ≤ 16 ∧ RowR b G m F d0 w2 (.slice aK KL.length cK) acc rr v cs wr)) (fun wr => leftN b wr)
  case atStart => exact ⟨[], r1, r.length + 1, [], _, rfl, by omega, hl1, by simp, unhideR RI⟩
  case round =>
    obtain ⟨acc, rr, f, cs, v, hS, hff, hrl, ha16, hI⟩ := unhideR hrel
    obtain ⟨q5, c5, rfl⟩ := own_form hI.own
    have HS := hideR hS
    have HI := hideR hI
    obtain ⟨f', rfl⟩ : ∃ f', f = f' + 1 := ⟨f - 1, by omega⟩
    obtain ⟨⟨fk, fq⟩, ff0, ff1⟩ := cells2f hI.fb
    have hbr := hI.rd.lt
    have CU := hideR (fun W (bW : Below wr.heap.size wr W) => unhideR CR W rr acc.length ha16 (hI.rd.later bW) hI.he (by omega) (hI.mq.later bW))
    have CS := hideR (sees_l wr b G rr m d0 hI.rd hI.he (-1) [] (fun z hz => by cases hz))
    rw [lk_kind rr (-1) (by decide), e0] at CS
    have hE := hI.he
    have hlF := (Array.getElem?_eq_some_iff.1 hI.fb).1
    clear hrel hS hI RI
    by_cases hz : acc = []
    · have HZ := hideR hz
      have a0 : ((acc.length : Int) == 0) = true := by rw [hz]; rfl
      clear hz hE
      have b3 : Below wr.heap.size wr wr := Below.refl _ _
      go_wp2_with fail
      refine wp_region_held_drew (S := (fun _ => True)) (by kernel_rfl) trivial (fun hHeld => ?_)
      refine wpAnyH_take (i := 0) (v := ?_) rfl (by kernel_rfl) (by kernel_rfl) (by kernel_rfl) (fun _ _ _ h => h) (Or.inl ⟨by kernel_rfl, ?_⟩) (by assumption) ?_
      rotate_left
      · intro w hSw; (try dsimp only at hSw); go_simp; (try with_reducible rfl)
      try simp only [Act.put, List.getElem_toArray, List.getElem_cons_succ, List.getElem_cons_zero, List.setIfInBounds_toArray, List.set_cons_zero, List.set_cons_succ]
      refine wpAnyH_take (i := 2) (v := ?_) rfl (by kernel_rfl) (by kernel_rfl) (by kernel_rfl) (fun _ _ _ h => h) (Or.inl ⟨by kernel_rfl, ?_⟩) (by assumption) ?_
      rotate_left
      · intro w hSw; (try dsimp only at hSw); go_simp; (try with_reducible rfl)
      try simp only [Act.put, List.getElem_toArray, List.getElem_cons_succ, List.getElem_cons_zero, List.setIfInBounds_toArray, List.set_cons_zero, List.set_cons_succ]
      refine wpAnyH_take (i := 3) (v := ?_) rfl (by kernel_rfl) (by kernel_rfl) (by kernel_rfl) (fun _ _ _ h => h) (Or.inl ⟨by kernel_rfl, ?_⟩) (by assumption) ?_
      rotate_left
      · intro w hSw; (try dsimp only at hSw); go_simp; (try with_reducible rfl)
      try simp only [Act.put, List.getElem_toArray, List.getElem_cons_succ, List.getElem_cons_zero, List.setIfInBounds_toArray, List.set_cons_zero, List.set_cons_succ]
      refine wpAnyH_ready (rs := [1, 4]) (by kernel_rfl) (by simp) ?_
      refine AllReadyH.cons rfl (fun K hK => ?_) (AllReadyH.cons rfl (fun K hK => ?_) AllReadyH.nil)
      · go_simp
        refine hK.out _ _ trivial (fun hHeld => ?_)
        clear hK K
        try simp only [Act.put, List.getElem_toArray, List.getElem_cons_succ, List.getElem_cons_zero, List.setIfInBounds_toArray, List.set_cons_zero, List.set_cons_succ]
        refine wpAnyH_ready (rs := [4]) (by kernel_rfl) (by simp) ?_
        refine AllReadyH.cons rfl (fun K hK => ?_) AllReadyH.nil
        go_simp
        refine hK.out _ _ trivial (fun hHeld => ?_)
        clear hK K
        try simp only [Act.put, List.getElem_toArray, List.getElem_cons_succ, List.getElem_cons_zero, List.setIfInBounds_toArray, List.set_cons_zero, List.set_cons_succ]
        refine wpAnyH_take (i := 5) (v := ?_) rfl (by kernel_rfl) (by kernel_rfl) (by kernel_rfl) (fun _ _ _ h => h) (Or.inl ⟨by kernel_rfl, ?_⟩) (by assumption) ?_
        rotate_left
        · intro w hSw; (try dsimp only at hSw); go_simp; (try with_reducible rfl)
        try simp only [Act.put, List.getElem_toArray, List.getElem_cons_succ, List.getElem_cons_zero, List.setIfInBounds_toArray, List.set_cons_zero, List.set_cons_succ]
        refine wpAnyH_ready (rs := [6]) (by kernel_rfl) (by simp) ?_
        refine AllReadyH.cons rfl (fun K hK => ?_) AllReadyH.nil
        go_simp
        refine (unhideR CU _ (bthen b3 draws_b)).mono ?_
        clear CU
        rintro e w4 (⟨v4, u4, r4, eu, rfl, ru4, E4, hl4, rd4, bu4⟩ | ⟨q4, y4, eu, rfl, bu4⟩)
        · have STEP : Hid (rulesF (r.length + 1) [] r1 = rulesF f' (acc ++ [u4]) r4) := (unhideR HS).trans (rulesF_more (.inl (unhideR HZ)) eu)
          have hmost := rule_most eu
          have B4 := bthen b3 (draws_b (k := 1) (w := wr) (B := wr.heap.size))
          have HRU := hideR ru4
          obtain ⟨z0, z1, z2, z3, z4, z5, z6, z7, z8, z9, z10, z11, z12, z13, z14, rfl⟩ := ru4.form
          have HO := own_buT (ownL B4 (unhideR HI).own) bu4 (by omega)
          have hs4 := bu4.size
          have hs3 := B4.size
          have hs0 := (unhideR HI).bu.size
          have f4 : w4.heap[F]? = some (.cells #[.slice aK KL.length cK, .slice q5 acc.length c5] 26) := bu4.at ((B4.block F hlF).trans (unhideR HI).fb) (by omega)
          obtain ⟨⟨g0, g1⟩, k0, k1⟩ := cells2f f4
          have g1' : ∀ o, (w4.alloc o).cell? ⟨F, 1, none⟩ = some (.slice q5 acc.length c5) := fun o => ((Below.new1 o).cell (block_lt' g1)).trans g1
          have hF4 : F < w4.heap.size := (Array.getElem?_eq_some_iff.1 f4).1
          have HBU4 := hideR bu4
          have HRD4 := hideR rd4
          have HE4 := hideR E4
          obtain ⟨ti, hi0, hz0, hz1, hz2⟩ := info_parts rule_info
          clear ru4 bu4 rd4 E4 eu
          (try clear CS)
          refine hK.out _ _ trivial (fun hHeld => ?_)
          clear hK K
          try simp only [Act.put, List.getElem_toArray, List.getElem_cons_succ, List.getElem_cons_zero, List.setIfInBounds_toArray, List.set_cons_zero, List.set_cons_succ]
          refine wpAnyH_ready (rs := [7]) (by kernel_rfl) (by simp) ?_
          refine AllReadyH.cons rfl (fun K hK => ?_) AllReadyH.nil
          go_simp
          refine hK.out _ _ trivial (fun hHeld => ?_)
          clear hK K
          try simp only [Act.put, List.getElem_toArray, List.getElem_cons_succ, List.getElem_cons_zero, List.setIfInBounds_toArray, List.set_cons_zero, List.set_cons_succ]
          refine wpAnyH_ready (rs := [8]) (by kernel_rfl) (by simp) ?_
          refine AllReadyH.cons rfl (fun K hK => ?_) AllReadyH.nil
          refine step_append_lies _ rfl _ _ 24 rfl w2.heap.size 44 ti _ 9 136 Tryz.underlying24 hi0 hz0 hz1 hz2 rfl (by omega) _ _ _ rfl (HO.alloc _) ⟨w4.heap.size, 0, none⟩ 1 1 [.string z0, .int .i64 z1, .int .i64 z2, .string z3, .slice z4 z5 z6, .slice z7 z8 z9, .int .i64 z10, .slice z11 z12 z13, .int .i64 z14] rfl rfl (new_rule _ _ _ _ _ _ _ _ _ _ _ rfl) (by simp [Value.oneCell']) (by omega) (by unfold maxLen; omega) (by omega) (by simp; omega) (w4.heap.size + 1) (by simp) ?_
          intro gg cap1 w5 hown1 hgrow hat hlt1
          have lo := HO.lt
          have f5 : w5.heap[F]? = some (.cells #[.slice aK KL.length cK, .slice q5 acc.length c5] 26) := (hgrow.block F (by rw [World.size_alloc]; omega) (fun e => by have := (lo F e.symm).1; omega)).trans (old_at f4 _)
          obtain ⟨⟨n0, n1⟩, n2, n3⟩ := cells2f f5
          have NI := hideR (RowR.snoc (unhideR HI) (by omega) (by omega) (by omega) (by omega) (by omega) B4 (unhideR HBU4) (unhideR HE4) (unhideR HRD4) (unhideR HRU) hown1 hgrow (by rcases hat with h | h; exact .inl h; exact .inr (by simp [h])))
          clear g0 g1 g1' k0 k1 f4 hgrow hat hlt1 hown1 HO lo
          refine hK.out _ _ trivial (fun hHeld => ?_)
          clear hK K
          try simp only [Act.put, List.getElem_toArray, List.getElem_cons_succ, List.getElem_cons_zero, List.setIfInBounds_toArray, List.set_cons_zero, List.set_cons_succ]
          refine wpAnyH_take (i := 9) (v := ?_) rfl (by kernel_rfl) (by kernel_rfl) (by kernel_rfl) (fun _ _ _ h => h) (Or.inl ⟨by kernel_rfl, ?_⟩) (by assumption) ?_
          rotate_left
          · intro w hSw; (try dsimp only at hSw); go_simp; (try with_reducible rfl)
          try simp only [Act.put, List.getElem_toArray, List.getElem_cons_succ, List.getElem_cons_zero, List.setIfInBounds_toArray, List.set_cons_zero, List.set_cons_succ]
          refine wpAnyH_ready (rs := [10]) (by kernel_rfl) (by simp) ?_
          refine AllReadyH.cons rfl (fun K hK => ?_) AllReadyH.nil
          go_simp
          refine hK.out _ _ trivial (fun hHeld => ?_)
          clear hK K
          try simp only [Act.put, List.getElem_toArray, List.getElem_cons_succ, List.getElem_cons_zero, List.setIfInBounds_toArray, List.set_cons_zero, List.set_cons_succ]
          refine wpAnyH_done (by kernel_rfl) ?_ _
          go_wp2_with fail
          go_roundw
          case rel =>
            refine ⟨acc ++ [u4], r4, f', _, _, unhideR STEP, by omega, by omega, by rw [List.length_append, List.length_singleton]; omega, unhideR NI⟩
          case measure => rw [(unhideR NI).rd.left, (unhideR HI).rd.left]; exact hl4
        · have FIN : Hid (fileT r = .inl (q4, y4)) := by show _ = _; rw [unhideR ST, unhideR HS, rulesF_bad (.inl (unhideR HZ)) eu]
          have BF := hideR ((Bu2.bu (unhideR BU2) (unhideR HI).bu (by omega)).then ((Bu.of (bthen b3 (draws_b (k := 1) (w := wr) (B := wr.heap.size)))).then bu4))
          clear eu
          unfold wrongE
          go_wp2_with fail
          exact ⟨rfl, .inr ⟨q4, y4, unhideR FIN, rfl, unhideR BF⟩⟩
      · go_simp
        refine hK.out _ _ trivial (fun hHeld => ?_)
        clear hK K
        try simp only [Act.put, List.getElem_toArray, List.getElem_cons_succ, List.getElem_cons_zero, List.setIfInBounds_toArray, List.set_cons_zero, List.set_cons_succ]
        refine wpAnyH_take (i := 5) (v := ?_) rfl (by kernel_rfl) (by kernel_rfl) (by kernel_rfl) (fun _ _ _ h => h) (Or.inl ⟨by kernel_rfl, ?_⟩) (by assumption) ?_
        rotate_left
        · intro w hSw; (try dsimp only at hSw); go_simp; (try with_reducible rfl)
        try simp only [Act.put, List.getElem_toArray, List.getElem_cons_succ, List.getElem_cons_zero, List.setIfInBounds_toArray, List.set_cons_zero, List.set_cons_succ]
        refine wpAnyH_ready (rs := [1, 6]) (by kernel_rfl) (by simp) ?_
        refine AllReadyH.cons rfl (fun K hK => ?_) (AllReadyH.cons rfl (fun K hK => ?_) AllReadyH.nil)
        · go_simp
          refine hK.out _ _ trivial (fun hHeld => ?_)
          clear hK K
          try simp only [Act.put, List.getElem_toArray, List.getElem_cons_succ, List.getElem_cons_zero, List.setIfInBounds_toArray, List.set_cons_zero, List.set_cons_succ]
          refine wpAnyH_ready (rs := [6]) (by kernel_rfl) (by simp) ?_
          refine AllReadyH.cons rfl (fun K hK => ?_) AllReadyH.nil
          go_simp
          refine (unhideR CU _ (bthen b3 draws_b)).mono ?_
          clear CU
          rintro e w4 (⟨v4, u4, r4, eu, rfl, ru4, E4, hl4, rd4, bu4⟩ | ⟨q4, y4, eu, rfl, bu4⟩)
          · have STEP : Hid (rulesF (r.length + 1) [] r1 = rulesF f' (acc ++ [u4]) r4) := (unhideR HS).trans (rulesF_more (.inl (unhideR HZ)) eu)
            have hmost := rule_most eu
            have B4 := bthen b3 (draws_b (k := 1) (w := wr) (B := wr.heap.size))
            have HRU := hideR ru4
            obtain ⟨z0, z1, z2, z3, z4, z5, z6, z7, z8, z9, z10, z11, z12, z13, z14, rfl⟩ := ru4.form
            have HO := own_buT (ownL B4 (unhideR HI).own) bu4 (by omega)
            have hs4 := bu4.size
            have hs3 := B4.size
            have hs0 := (unhideR HI).bu.size
            have f4 : w4.heap[F]? = some (.cells #[.slice aK KL.length cK, .slice q5 acc.length c5] 26) := bu4.at ((B4.block F hlF).trans (unhideR HI).fb) (by omega)
            obtain ⟨⟨g0, g1⟩, k0, k1⟩ := cells2f f4
            have g1' : ∀ o, (w4.alloc o).cell? ⟨F, 1, none⟩ = some (.slice q5 acc.length c5) := fun o => ((Below.new1 o).cell (block_lt' g1)).trans g1
            have hF4 : F < w4.heap.size := (Array.getElem?_eq_some_iff.1 f4).1
            have HBU4 := hideR bu4
            have HRD4 := hideR rd4
            have HE4 := hideR E4
            obtain ⟨ti, hi0, hz0, hz1, hz2⟩ := info_parts rule_info
            clear ru4 bu4 rd4 E4 eu
            (try clear CS)
            refine hK.out _ _ trivial (fun hHeld => ?_)
            clear hK K
            try simp only [Act.put, List.getElem_toArray, List.getElem_cons_succ, List.getElem_cons_zero, List.setIfInBounds_toArray, List.set_cons_zero, List.set_cons_succ]
            refine wpAnyH_ready (rs := [7]) (by kernel_rfl) (by simp) ?_
            refine AllReadyH.cons rfl (fun K hK => ?_) AllReadyH.nil
            go_simp
            refine hK.out _ _ trivial (fun hHeld => ?_)
            clear hK K
            try simp only [Act.put, List.getElem_toArray, List.getElem_cons_succ, List.getElem_cons_zero, List.setIfInBounds_toArray, List.set_cons_zero, List.set_cons_succ]
            refine wpAnyH_ready (rs := [8]) (by kernel_rfl) (by simp) ?_
            refine AllReadyH.cons rfl (fun K hK => ?_) AllReadyH.nil
            refine step_append_lies _ rfl _ _ 24 rfl w2.heap.size 44 ti _ 9 136 Tryz.underlying24 hi0 hz0 hz1 hz2 rfl (by omega) _ _ _ rfl (HO.alloc _) ⟨w4.heap.size, 0, none⟩ 1 1 [.string z0, .int .i64 z1, .int .i64 z2, .string z3, .slice z4 z5 z6, .slice z7 z8 z9, .int .i64 z10, .slice z11 z12 z13, .int .i64 z14] rfl rfl (new_rule _ _ _ _ _ _ _ _ _ _ _ rfl) (by simp [Value.oneCell']) (by omega) (by unfold maxLen; omega) (by omega) (by simp; omega) (w4.heap.size + 1) (by simp) ?_
            intro gg cap1 w5 hown1 hgrow hat hlt1
            have lo := HO.lt
            have f5 : w5.heap[F]? = some (.cells #[.slice aK KL.length cK, .slice q5 acc.length c5] 26) := (hgrow.block F (by rw [World.size_alloc]; omega) (fun e => by have := (lo F e.symm).1; omega)).trans (old_at f4 _)
            obtain ⟨⟨n0, n1⟩, n2, n3⟩ := cells2f f5
            have NI := hideR (RowR.snoc (unhideR HI) (by omega) (by omega) (by omega) (by omega) (by omega) B4 (unhideR HBU4) (unhideR HE4) (unhideR HRD4) (unhideR HRU) hown1 hgrow (by rcases hat with h | h; exact .inl h; exact .inr (by simp [h])))
            clear g0 g1 g1' k0 k1 f4 hgrow hat hlt1 hown1 HO lo
            refine hK.out _ _ trivial (fun hHeld => ?_)
            clear hK K
            try simp only [Act.put, List.getElem_toArray, List.getElem_cons_succ, List.getElem_cons_zero, List.setIfInBounds_toArray, List.set_cons_zero, List.set_cons_succ]
            refine wpAnyH_take (i := 9) (v := ?_) rfl (by kernel_rfl) (by kernel_rfl) (by kernel_rfl) (fun _ _ _ h => h) (Or.inl ⟨by kernel_rfl, ?_⟩) (by assumption) ?_
            rotate_left
            · intro w hSw; (try dsimp only at hSw); go_simp; (try with_reducible rfl)
            try simp only [Act.put, List.getElem_toArray, List.getElem_cons_succ, List.getElem_cons_zero, List.setIfInBounds_toArray, List.set_cons_zero, List.set_cons_succ]
            refine wpAnyH_ready (rs := [10]) (by kernel_rfl) (by simp) ?_
            refine AllReadyH.cons rfl (fun K hK => ?_) AllReadyH.nil
            go_simp
            refine hK.out _ _ trivial (fun hHeld => ?_)
            clear hK K
            try simp only [Act.put, List.getElem_toArray, List.getElem_cons_succ, List.getElem_cons_zero, List.setIfInBounds_toArray, List.set_cons_zero, List.set_cons_succ]
            refine wpAnyH_done (by kernel_rfl) ?_ _
            go_wp2_with fail
            go_roundw
            case rel =>
              refine ⟨acc ++ [u4], r4, f', _, _, unhideR STEP, by omega, by omega, by rw [List.length_append, List.length_singleton]; omega, unhideR NI⟩
            case measure => rw [(unhideR NI).rd.left, (unhideR HI).rd.left]; exact hl4
          · have FIN : Hid (fileT r = .inl (q4, y4)) := by show _ = _; rw [unhideR ST, unhideR HS, rulesF_bad (.inl (unhideR HZ)) eu]
            have BF := hideR ((Bu2.bu (unhideR BU2) (unhideR HI).bu (by omega)).then ((Bu.of (bthen b3 (draws_b (k := 1) (w := wr) (B := wr.heap.size)))).then bu4))
            clear eu
            unfold wrongE
            go_wp2_with fail
            exact ⟨rfl, .inr ⟨q4, y4, unhideR FIN, rfl, unhideR BF⟩⟩
        · go_simp
          refine (unhideR CU _ (bthen b3 draws_b)).mono ?_
          clear CU
          rintro e w4 (⟨v4, u4, r4, eu, rfl, ru4, E4, hl4, rd4, bu4⟩ | ⟨q4, y4, eu, rfl, bu4⟩)
          · have STEP : Hid (rulesF (r.length + 1) [] r1 = rulesF f' (acc ++ [u4]) r4) := (unhideR HS).trans (rulesF_more (.inl (unhideR HZ)) eu)
            have hmost := rule_most eu
            have B4 := bthen b3 (draws_b (k := 1) (w := wr) (B := wr.heap.size))
            have HRU := hideR ru4
            obtain ⟨z0, z1, z2, z3, z4, z5, z6, z7, z8, z9, z10, z11, z12, z13, z14, rfl⟩ := ru4.form
            have HO := own_buT (ownL B4 (unhideR HI).own) bu4 (by omega)
            have hs4 := bu4.size
            have hs3 := B4.size
            have hs0 := (unhideR HI).bu.size
            have f4 : w4.heap[F]? = some (.cells #[.slice aK KL.length cK, .slice q5 acc.length c5] 26) := bu4.at ((B4.block F hlF).trans (unhideR HI).fb) (by omega)
            obtain ⟨⟨g0, g1⟩, k0, k1⟩ := cells2f f4
            have g1' : ∀ o, (w4.alloc o).cell? ⟨F, 1, none⟩ = some (.slice q5 acc.length c5) := fun o => ((Below.new1 o).cell (block_lt' g1)).trans g1
            have hF4 : F < w4.heap.size := (Array.getElem?_eq_some_iff.1 f4).1
            have HBU4 := hideR bu4
            have HRD4 := hideR rd4
            have HE4 := hideR E4
            obtain ⟨ti, hi0, hz0, hz1, hz2⟩ := info_parts rule_info
            clear ru4 bu4 rd4 E4 eu
            (try clear CS)
            refine hK.out _ _ trivial (fun hHeld => ?_)
            clear hK K
            try simp only [Act.put, List.getElem_toArray, List.getElem_cons_succ, List.getElem_cons_zero, List.setIfInBounds_toArray, List.set_cons_zero, List.set_cons_succ]
            refine wpAnyH_ready (rs := [1, 7]) (by kernel_rfl) (by simp) ?_
            refine AllReadyH.cons rfl (fun K hK => ?_) (AllReadyH.cons rfl (fun K hK => ?_) AllReadyH.nil)
            · go_simp
              refine hK.out _ _ trivial (fun hHeld => ?_)
              clear hK K
              try simp only [Act.put, List.getElem_toArray, List.getElem_cons_succ, List.getElem_cons_zero, List.setIfInBounds_toArray, List.set_cons_zero, List.set_cons_succ]
              refine wpAnyH_ready (rs := [7]) (by kernel_rfl) (by simp) ?_
              refine AllReadyH.cons rfl (fun K hK => ?_) AllReadyH.nil
              go_simp
              refine hK.out _ _ trivial (fun hHeld => ?_)
              clear hK K
              try simp only [Act.put, List.getElem_toArray, List.getElem_cons_succ, List.getElem_cons_zero, List.setIfInBounds_toArray, List.set_cons_zero, List.set_cons_succ]
              refine wpAnyH_ready (rs := [8]) (by kernel_rfl) (by simp) ?_
              refine AllReadyH.cons rfl (fun K hK => ?_) AllReadyH.nil
              refine step_append_lies _ rfl _ _ 24 rfl w2.heap.size 44 ti _ 9 136 Tryz.underlying24 hi0 hz0 hz1 hz2 rfl (by omega) _ _ _ rfl (HO.alloc _) ⟨w4.heap.size, 0, none⟩ 1 1 [.string z0, .int .i64 z1, .int .i64 z2, .string z3, .slice z4 z5 z6, .slice z7 z8 z9, .int .i64 z10, .slice z11 z12 z13, .int .i64 z14] rfl rfl (new_rule _ _ _ _ _ _ _ _ _ _ _ rfl) (by simp [Value.oneCell']) (by omega) (by unfold maxLen; omega) (by omega) (by simp; omega) (w4.heap.size + 1) (by simp) ?_
              intro gg cap1 w5 hown1 hgrow hat hlt1
              have lo := HO.lt
              have f5 : w5.heap[F]? = some (.cells #[.slice aK KL.length cK, .slice q5 acc.length c5] 26) := (hgrow.block F (by rw [World.size_alloc]; omega) (fun e => by have := (lo F e.symm).1; omega)).trans (old_at f4 _)
              obtain ⟨⟨n0, n1⟩, n2, n3⟩ := cells2f f5
              have NI := hideR (RowR.snoc (unhideR HI) (by omega) (by omega) (by omega) (by omega) (by omega) B4 (unhideR HBU4) (unhideR HE4) (unhideR HRD4) (unhideR HRU) hown1 hgrow (by rcases hat with h | h; exact .inl h; exact .inr (by simp [h])))
              clear g0 g1 g1' k0 k1 f4 hgrow hat hlt1 hown1 HO lo
              refine hK.out _ _ trivial (fun hHeld => ?_)
              clear hK K
              try simp only [Act.put, List.getElem_toArray, List.getElem_cons_succ, List.getElem_cons_zero, List.setIfInBounds_toArray, List.set_cons_zero, List.set_cons_succ]
              refine wpAnyH_take (i := 9) (v := ?_) rfl (by kernel_rfl) (by kernel_rfl) (by kernel_rfl) (fun _ _ _ h => h) (Or.inl ⟨by kernel_rfl, ?_⟩) (by assumption) ?_
              rotate_left
              · intro w hSw; (try dsimp only at hSw); go_simp; (try with_reducible rfl)
              try simp only [Act.put, List.getElem_toArray, List.getElem_cons_succ, List.getElem_cons_zero, List.setIfInBounds_toArray, List.set_cons_zero, List.set_cons_succ]
              refine wpAnyH_ready (rs := [10]) (by kernel_rfl) (by simp) ?_
              refine AllReadyH.cons rfl (fun K hK => ?_) AllReadyH.nil
              go_simp
              refine hK.out _ _ trivial (fun hHeld => ?_)
              clear hK K
              try simp only [Act.put, List.getElem_toArray, List.getElem_cons_succ, List.getElem_cons_zero, List.setIfInBounds_toArray, List.set_cons_zero, List.set_cons_succ]
              refine wpAnyH_done (by kernel_rfl) ?_ _
              go_wp2_with fail
              go_roundw
              case rel =>
                refine ⟨acc ++ [u4], r4, f', _, _, unhideR STEP, by omega, by omega, by rw [List.length_append, List.length_singleton]; omega, unhideR NI⟩
              case measure => rw [(unhideR NI).rd.left, (unhideR HI).rd.left]; exact hl4
            · go_simp
              refine hK.out _ _ trivial (fun hHeld => ?_)
              clear hK K
              try simp only [Act.put, List.getElem_toArray, List.getElem_cons_succ, List.getElem_cons_zero, List.setIfInBounds_toArray, List.set_cons_zero, List.set_cons_succ]
              refine wpAnyH_ready (rs := [1]) (by kernel_rfl) (by simp) ?_
              refine AllReadyH.cons rfl (fun K hK => ?_) AllReadyH.nil
              go_simp
              refine hK.out _ _ trivial (fun hHeld => ?_)
              clear hK K
              try simp only [Act.put, List.getElem_toArray, List.getElem_cons_succ, List.getElem_cons_zero, List.setIfInBounds_toArray, List.set_cons_zero, List.set_cons_succ]
              refine wpAnyH_ready (rs := [8]) (by kernel_rfl) (by simp) ?_
              refine AllReadyH.cons rfl (fun K hK => ?_) AllReadyH.nil
              refine step_append_lies _ rfl _ _ 24 rfl w2.heap.size 44 ti _ 9 136 Tryz.underlying24 hi0 hz0 hz1 hz2 rfl (by omega) _ _ _ rfl (HO.alloc _) ⟨w4.heap.size, 0, none⟩ 1 1 [.string z0, .int .i64 z1, .int .i64 z2, .string z3, .slice z4 z5 z6, .slice z7 z8 z9, .int .i64 z10, .slice z11 z12 z13, .int .i64 z14] rfl rfl (new_rule _ _ _ _ _ _ _ _ _ _ _ rfl) (by simp [Value.oneCell']) (by omega) (by unfold maxLen; omega) (by omega) (by simp; omega) (w4.heap.size + 1) (by simp) ?_
              intro gg cap1 w5 hown1 hgrow hat hlt1
              have lo := HO.lt
              have f5 : w5.heap[F]? = some (.cells #[.slice aK KL.length cK, .slice q5 acc.length c5] 26) := (hgrow.block F (by rw [World.size_alloc]; omega) (fun e => by have := (lo F e.symm).1; omega)).trans (old_at f4 _)
              obtain ⟨⟨n0, n1⟩, n2, n3⟩ := cells2f f5
              have NI := hideR (RowR.snoc (unhideR HI) (by omega) (by omega) (by omega) (by omega) (by omega) B4 (unhideR HBU4) (unhideR HE4) (unhideR HRD4) (unhideR HRU) hown1 hgrow (by rcases hat with h | h; exact .inl h; exact .inr (by simp [h])))
              clear g0 g1 g1' k0 k1 f4 hgrow hat hlt1 hown1 HO lo
              refine hK.out _ _ trivial (fun hHeld => ?_)
              clear hK K
              try simp only [Act.put, List.getElem_toArray, List.getElem_cons_succ, List.getElem_cons_zero, List.setIfInBounds_toArray, List.set_cons_zero, List.set_cons_succ]
              refine wpAnyH_take (i := 9) (v := ?_) rfl (by kernel_rfl) (by kernel_rfl) (by kernel_rfl) (fun _ _ _ h => h) (Or.inl ⟨by kernel_rfl, ?_⟩) (by assumption) ?_
              rotate_left
              · intro w hSw; (try dsimp only at hSw); go_simp; (try with_reducible rfl)
              try simp only [Act.put, List.getElem_toArray, List.getElem_cons_succ, List.getElem_cons_zero, List.setIfInBounds_toArray, List.set_cons_zero, List.set_cons_succ]
              refine wpAnyH_ready (rs := [10]) (by kernel_rfl) (by simp) ?_
              refine AllReadyH.cons rfl (fun K hK => ?_) AllReadyH.nil
              go_simp
              refine hK.out _ _ trivial (fun hHeld => ?_)
              clear hK K
              try simp only [Act.put, List.getElem_toArray, List.getElem_cons_succ, List.getElem_cons_zero, List.setIfInBounds_toArray, List.set_cons_zero, List.set_cons_succ]
              refine wpAnyH_done (by kernel_rfl) ?_ _
              go_wp2_with fail
              go_roundw
              case rel =>
                refine ⟨acc ++ [u4], r4, f', _, _, unhideR STEP, by omega, by omega, by rw [List.length_append, List.length_singleton]; omega, unhideR NI⟩
              case measure => rw [(unhideR NI).rd.left, (unhideR HI).rd.left]; exact hl4
          · have FIN : Hid (fileT r = .inl (q4, y4)) := by show _ = _; rw [unhideR ST, unhideR HS, rulesF_bad (.inl (unhideR HZ)) eu]
            have BF := hideR ((Bu2.bu (unhideR BU2) (unhideR HI).bu (by omega)).then ((Bu.of (bthen b3 (draws_b (k := 1) (w := wr) (B := wr.heap.size)))).then bu4))
            clear eu
            unfold wrongE
            go_wp2_with fail
            exact ⟨rfl, .inr ⟨q4, y4, unhideR FIN, rfl, unhideR BF⟩⟩
    · by_cases he : kd rr = -1
      · have a0 : ((acc.length : Int) == 0) = false := beq_eq_false_iff_ne.2 (fun c => hz (List.eq_nil_of_length_eq_zero (by omega)))
        rw [decide_eq_true he] at CS
        have FIN : Hid (fileT r = .inr (KL, acc)) := by show _ = _; rw [unhideR ST, unhideR HS, rulesF_end hz he]
        clear hz he hE CU
        go_wp2_with fail
        refine (unhideR CS).mono ?_
        rintro e w3 ⟨rfl, b3⟩
        clear CS
        have hI := unhideR HI
        have hs0 := hI.bu.size
        have FB3 : w3.heap[F]? = some (.cells #[.slice aK KL.length cK, .slice q5 acc.length c5] 26) := (b3.block F hlF).trans hI.fb
        have OUT3 : w3.heap[w.heap.size]? = some (.cells #[.slice none 0 0, .slice none 0 0] 26) := by
          rw [b3.block _ (by omega), hI.bu.block _ (by omega) (by omega) (by omega)]
          exact unhideR OUT2
        obtain ⟨⟨g0, g1⟩, -⟩ := cells2f FB3
        obtain ⟨⟨o0, o1⟩, k0, k1⟩ := cells2f OUT3
        clear hI
        go_wp2_with fail
        (try simp only [Exit.inBlock, Exit.then])
        have hI := unhideR HI
        have X2 : ∀ k, k ≠ w.heap.size → ((w3.setCell ⟨w.heap.size, 0, none⟩ (.slice aK KL.length cK)).setCell ⟨w.heap.size, 1, none⟩ (.slice q5 acc.length c5)).heap[k]? = w3.heap[k]? := fun k hk => by
          simp only [Below.heap_setCell _ _ _ k (show k ≠ (⟨w.heap.size, _, none⟩ : Addr).block from hk)]
        have KX : KR w3 ((w3.setCell ⟨w.heap.size, 0, none⟩ (.slice aK KL.length cK)).setCell ⟨w.heap.size, 1, none⟩ (.slice q5 acc.length c5)) := fun g' cs fr hk => by
          rw [X2 g' (type_ne hk OUT3 (by decide))]; exact hk
        have s3 := b3.size
        have OWX := (ownL b3 hI.own).kept (w' := (w3.setCell ⟨w.heap.size, 0, none⟩ (.slice aK KL.length cK)).setCell ⟨w.heap.size, 1, none⟩ (.slice q5 acc.length c5)) (row := some w.heap.size) ((Bu.set w.heap.size 0 w3 _).then (Bu.set w.heap.size 1 _ _)) (by
          cases e : (Value.slice q5 acc.length c5).ownBlock with
          | none => exact .inl rfl
          | some k => exact .inr (fun c => by injection c with c; have := (hI.own.lt k e).1; omega))
        refine bodyPost_ret (v := .agg #[.slice aK KL.length cK, .slice q5 acc.length c5]) ?_ rfl (.inl ⟨_, (KL, acc), unhideR FIN, rfl, ⟨aK, cK, q5, c5, rfl, ?_, cs, rfl, own_row OWX _ (fun g h1 h2 => ⟨by omega, h2⟩), ?_⟩, ?_⟩)
        · exact res_file rfl rfl (by
            have h0 := heap_setCell_same w3 w.heap.size 0 _ _ (.slice aK KL.length cK) OUT3
            have h1 := heap_setCell_same _ w.heap.size 1 _ _ (.slice q5 acc.length c5) h0
            simpa using h1)
        · refine Ss.kept (unhideR SS2) fun g hg => ⟨⟨by have := hg.1; omega, by simp; have := hg.2; omega⟩, ?_⟩
          obtain ⟨g1, g2⟩ := hg
          rw [X2 g (by omega), b3.block g (by omega), hI.bu.block g (by omega) (by omega) (by omega)]
        · refine RuC.mono (fun u q hq => hq.kept (fun g hg => ⟨⟨by have := hg.1; omega, by simp; have := hg.2.1; omega⟩, ?_⟩) ((KR.of b3).then KX)) _ _ hI.pts
          rw [X2 g (by have := hg.1; omega), b3.block g hg.2.1]
        · exact (((Bu2.bu (unhideR BU2) hI.bu (by omega)).then (Bu.of b3)).setTop (Nat.le_refl _) _ _).setTop (Nat.le_refl _) _ _
      · have a0 : ((acc.length : Int) == 0) = false := beq_eq_false_iff_ne.2 (fun c => hz (List.eq_nil_of_length_eq_zero (by omega)))
        rw [decide_eq_false he] at CS
        have HZ := hideR he
        clear hz he hE
        go_wp2_with fail
        refine (unhideR CS).mono ?_
        rintro e w3 ⟨rfl, b3⟩
        clear CS
        have fq := (b3.cell hlF).trans fq
        go_wp2_with fail
        refine wp_region_held_drew (S := (fun _ => True)) (by kernel_rfl) trivial (fun hHeld => ?_)
        refine wpAnyH_take (i := 0) (v := ?_) rfl (by kernel_rfl) (by kernel_rfl) (by kernel_rfl) (fun _ _ _ h => h) (Or.inl ⟨by kernel_rfl, ?_⟩) (by assumption) ?_
        rotate_left
        · intro w hSw; (try dsimp only at hSw); go_simp; (try with_reducible rfl)
        try simp only [Act.put, List.getElem_toArray, List.getElem_cons_succ, List.getElem_cons_zero, List.setIfInBounds_toArray, List.set_cons_zero, List.set_cons_succ]
        refine wpAnyH_take (i := 2) (v := ?_) rfl (by kernel_rfl) (by kernel_rfl) (by kernel_rfl) (fun _ _ _ h => h) (Or.inl ⟨by kernel_rfl, ?_⟩) (by assumption) ?_
        rotate_left
        · intro w hSw; (try dsimp only at hSw); go_simp; (try with_reducible rfl)
        try simp only [Act.put, List.getElem_toArray, List.getElem_cons_succ, List.getElem_cons_zero, List.setIfInBounds_toArray, List.set_cons_zero, List.set_cons_succ]
        refine wpAnyH_take (i := 3) (v := ?_) rfl (by kernel_rfl) (by kernel_rfl) (by kernel_rfl) (fun _ _ _ h => h) (Or.inl ⟨by kernel_rfl, ?_⟩) (by assumption) ?_
        rotate_left
        · intro w hSw; (try dsimp only at hSw); go_simp; (try with_reducible rfl)
        try simp only [Act.put, List.getElem_toArray, List.getElem_cons_succ, List.getElem_cons_zero, List.setIfInBounds_toArray, List.set_cons_zero, List.set_cons_succ]
        refine wpAnyH_ready (rs := [1, 4]) (by kernel_rfl) (by simp) ?_
        refine AllReadyH.cons rfl (fun K hK => ?_) (AllReadyH.cons rfl (fun K hK => ?_) AllReadyH.nil)
        · go_simp
          refine hK.out _ _ trivial (fun hHeld => ?_)
          clear hK K
          try simp only [Act.put, List.getElem_toArray, List.getElem_cons_succ, List.getElem_cons_zero, List.setIfInBounds_toArray, List.set_cons_zero, List.set_cons_succ]
          refine wpAnyH_ready (rs := [4]) (by kernel_rfl) (by simp) ?_
          refine AllReadyH.cons rfl (fun K hK => ?_) AllReadyH.nil
          go_simp
          refine hK.out _ _ trivial (fun hHeld => ?_)
          clear hK K
          try simp only [Act.put, List.getElem_toArray, List.getElem_cons_succ, List.getElem_cons_zero, List.setIfInBounds_toArray, List.set_cons_zero, List.set_cons_succ]
          refine wpAnyH_take (i := 5) (v := ?_) rfl (by kernel_rfl) (by kernel_rfl) (by kernel_rfl) (fun _ _ _ h => h) (Or.inl ⟨by kernel_rfl, ?_⟩) (by assumption) ?_
          rotate_left
          · intro w hSw; (try dsimp only at hSw); go_simp; (try with_reducible rfl)
          try simp only [Act.put, List.getElem_toArray, List.getElem_cons_succ, List.getElem_cons_zero, List.setIfInBounds_toArray, List.set_cons_zero, List.set_cons_succ]
          refine wpAnyH_ready (rs := [6]) (by kernel_rfl) (by simp) ?_
          refine AllReadyH.cons rfl (fun K hK => ?_) AllReadyH.nil
          go_simp
          refine (unhideR CU _ (bthen b3 draws_b)).mono ?_
          clear CU
          rintro e w4 (⟨v4, u4, r4, eu, rfl, ru4, E4, hl4, rd4, bu4⟩ | ⟨q4, y4, eu, rfl, bu4⟩)
          · have STEP : Hid (rulesF (r.length + 1) [] r1 = rulesF f' (acc ++ [u4]) r4) := (unhideR HS).trans (rulesF_more (.inr (unhideR HZ)) eu)
            have hmost := rule_most eu
            have B4 := bthen b3 (draws_b (k := 1) (w := w3) (B := w3.heap.size))
            have HRU := hideR ru4
            obtain ⟨z0, z1, z2, z3, z4, z5, z6, z7, z8, z9, z10, z11, z12, z13, z14, rfl⟩ := ru4.form
            have HO := own_buT (ownL B4 (unhideR HI).own) bu4 (by omega)
            have hs4 := bu4.size
            have hs3 := B4.size
            have hs0 := (unhideR HI).bu.size
            have f4 : w4.heap[F]? = some (.cells #[.slice aK KL.length cK, .slice q5 acc.length c5] 26) := bu4.at ((B4.block F hlF).trans (unhideR HI).fb) (by omega)
            obtain ⟨⟨g0, g1⟩, k0, k1⟩ := cells2f f4
            have g1' : ∀ o, (w4.alloc o).cell? ⟨F, 1, none⟩ = some (.slice q5 acc.length c5) := fun o => ((Below.new1 o).cell (block_lt' g1)).trans g1
            have hF4 : F < w4.heap.size := (Array.getElem?_eq_some_iff.1 f4).1
            have HBU4 := hideR bu4
            have HRD4 := hideR rd4
            have HE4 := hideR E4
            obtain ⟨ti, hi0, hz0, hz1, hz2⟩ := info_parts rule_info
            clear ru4 bu4 rd4 E4 eu
            (try clear CS)
            refine hK.out _ _ trivial (fun hHeld => ?_)
            clear hK K
            try simp only [Act.put, List.getElem_toArray, List.getElem_cons_succ, List.getElem_cons_zero, List.setIfInBounds_toArray, List.set_cons_zero, List.set_cons_succ]
            refine wpAnyH_ready (rs := [7]) (by kernel_rfl) (by simp) ?_
            refine AllReadyH.cons rfl (fun K hK => ?_) AllReadyH.nil
            go_simp
            refine hK.out _ _ trivial (fun hHeld => ?_)
            clear hK K
            try simp only [Act.put, List.getElem_toArray, List.getElem_cons_succ, List.getElem_cons_zero, List.setIfInBounds_toArray, List.set_cons_zero, List.set_cons_succ]
            refine wpAnyH_ready (rs := [8]) (by kernel_rfl) (by simp) ?_
            refine AllReadyH.cons rfl (fun K hK => ?_) AllReadyH.nil
            refine step_append_lies _ rfl _ _ 24 rfl w2.heap.size 44 ti _ 9 136 Tryz.underlying24 hi0 hz0 hz1 hz2 rfl (by omega) _ _ _ rfl (HO.alloc _) ⟨w4.heap.size, 0, none⟩ 1 1 [.string z0, .int .i64 z1, .int .i64 z2, .string z3, .slice z4 z5 z6, .slice z7 z8 z9, .int .i64 z10, .slice z11 z12 z13, .int .i64 z14] rfl rfl (new_rule _ _ _ _ _ _ _ _ _ _ _ rfl) (by simp [Value.oneCell']) (by omega) (by unfold maxLen; omega) (by omega) (by simp; omega) (w4.heap.size + 1) (by simp) ?_
            intro gg cap1 w5 hown1 hgrow hat hlt1
            have lo := HO.lt
            have f5 : w5.heap[F]? = some (.cells #[.slice aK KL.length cK, .slice q5 acc.length c5] 26) := (hgrow.block F (by rw [World.size_alloc]; omega) (fun e => by have := (lo F e.symm).1; omega)).trans (old_at f4 _)
            obtain ⟨⟨n0, n1⟩, n2, n3⟩ := cells2f f5
            have NI := hideR (RowR.snoc (unhideR HI) (by omega) (by omega) (by omega) (by omega) (by omega) B4 (unhideR HBU4) (unhideR HE4) (unhideR HRD4) (unhideR HRU) hown1 hgrow (by rcases hat with h | h; exact .inl h; exact .inr (by simp [h])))
            clear g0 g1 g1' k0 k1 f4 hgrow hat hlt1 hown1 HO lo
            refine hK.out _ _ trivial (fun hHeld => ?_)
            clear hK K
            try simp only [Act.put, List.getElem_toArray, List.getElem_cons_succ, List.getElem_cons_zero, List.setIfInBounds_toArray, List.set_cons_zero, List.set_cons_succ]
            refine wpAnyH_take (i := 9) (v := ?_) rfl (by kernel_rfl) (by kernel_rfl) (by kernel_rfl) (fun _ _ _ h => h) (Or.inl ⟨by kernel_rfl, ?_⟩) (by assumption) ?_
            rotate_left
            · intro w hSw; (try dsimp only at hSw); go_simp; (try with_reducible rfl)
            try simp only [Act.put, List.getElem_toArray, List.getElem_cons_succ, List.getElem_cons_zero, List.setIfInBounds_toArray, List.set_cons_zero, List.set_cons_succ]
            refine wpAnyH_ready (rs := [10]) (by kernel_rfl) (by simp) ?_
            refine AllReadyH.cons rfl (fun K hK => ?_) AllReadyH.nil
            go_simp
            refine hK.out _ _ trivial (fun hHeld => ?_)
            clear hK K
            try simp only [Act.put, List.getElem_toArray, List.getElem_cons_succ, List.getElem_cons_zero, List.setIfInBounds_toArray, List.set_cons_zero, List.set_cons_succ]
            refine wpAnyH_done (by kernel_rfl) ?_ _
            go_wp2_with fail
            go_roundw
            case rel =>
              refine ⟨acc ++ [u4], r4, f', _, _, unhideR STEP, by omega, by omega, by rw [List.length_append, List.length_singleton]; omega, unhideR NI⟩
            case measure => rw [(unhideR NI).rd.left, (unhideR HI).rd.left]; exact hl4
          · have FIN : Hid (fileT r = .inl (q4, y4)) := by show _ = _; rw [unhideR ST, unhideR HS, rulesF_bad (.inr (unhideR HZ)) eu]
            have BF := hideR ((Bu2.bu (unhideR BU2) (unhideR HI).bu (by omega)).then ((Bu.of (bthen b3 (draws_b (k := 1) (w := w3) (B := w3.heap.size)))).then bu4))
            clear eu
            unfold wrongE
            go_wp2_with fail
            exact ⟨rfl, .inr ⟨q4, y4, unhideR FIN, rfl, unhideR BF⟩⟩
        · go_simp
          refine hK.out _ _ trivial (fun hHeld => ?_)
          clear hK K
          try simp only [Act.put, List.getElem_toArray, List.getElem_cons_succ, List.getElem_cons_zero, List.setIfInBounds_toArray, List.set_cons_zero, List.set_cons_succ]
          refine wpAnyH_take (i := 5) (v := ?_) rfl (by kernel_rfl) (by kernel_rfl) (by kernel_rfl) (fun _ _ _ h => h) (Or.inl ⟨by kernel_rfl, ?_⟩) (by assumption) ?_
          rotate_left
          · intro w hSw; (try dsimp only at hSw); go_simp; (try with_reducible rfl)
          try simp only [Act.put, List.getElem_toArray, List.getElem_cons_succ, List.getElem_cons_zero, List.setIfInBounds_toArray, List.set_cons_zero, List.set_cons_succ]
          refine wpAnyH_ready (rs := [1, 6]) (by kernel_rfl) (by simp) ?_
          refine AllReadyH.cons rfl (fun K hK => ?_) (AllReadyH.cons rfl (fun K hK => ?_) AllReadyH.nil)
          · go_simp
            refine hK.out _ _ trivial (fun hHeld => ?_)
            clear hK K
            try simp only [Act.put, List.getElem_toArray, List.getElem_cons_succ, List.getElem_cons_zero, List.setIfInBounds_toArray, List.set_cons_zero, List.set_cons_succ]
            refine wpAnyH_ready (rs := [6]) (by kernel_rfl) (by simp) ?_
            refine AllReadyH.cons rfl (fun K hK => ?_) AllReadyH.nil
            go_simp
            refine (unhideR CU _ (bthen b3 draws_b)).mono ?_
            clear CU
            rintro e w4 (⟨v4, u4, r4, eu, rfl, ru4, E4, hl4, rd4, bu4⟩ | ⟨q4, y4, eu, rfl, bu4⟩)
            · have STEP : Hid (rulesF (r.length + 1) [] r1 = rulesF f' (acc ++ [u4]) r4) := (unhideR HS).trans (rulesF_more (.inr (unhideR HZ)) eu)
              have hmost := rule_most eu
              have B4 := bthen b3 (draws_b (k := 1) (w := w3) (B := w3.heap.size))
              have HRU := hideR ru4
              obtain ⟨z0, z1, z2, z3, z4, z5, z6, z7, z8, z9, z10, z11, z12, z13, z14, rfl⟩ := ru4.form
              have HO := own_buT (ownL B4 (unhideR HI).own) bu4 (by omega)
              have hs4 := bu4.size
              have hs3 := B4.size
              have hs0 := (unhideR HI).bu.size
              have f4 : w4.heap[F]? = some (.cells #[.slice aK KL.length cK, .slice q5 acc.length c5] 26) := bu4.at ((B4.block F hlF).trans (unhideR HI).fb) (by omega)
              obtain ⟨⟨g0, g1⟩, k0, k1⟩ := cells2f f4
              have g1' : ∀ o, (w4.alloc o).cell? ⟨F, 1, none⟩ = some (.slice q5 acc.length c5) := fun o => ((Below.new1 o).cell (block_lt' g1)).trans g1
              have hF4 : F < w4.heap.size := (Array.getElem?_eq_some_iff.1 f4).1
              have HBU4 := hideR bu4
              have HRD4 := hideR rd4
              have HE4 := hideR E4
              obtain ⟨ti, hi0, hz0, hz1, hz2⟩ := info_parts rule_info
              clear ru4 bu4 rd4 E4 eu
              (try clear CS)
              refine hK.out _ _ trivial (fun hHeld => ?_)
              clear hK K
              try simp only [Act.put, List.getElem_toArray, List.getElem_cons_succ, List.getElem_cons_zero, List.setIfInBounds_toArray, List.set_cons_zero, List.set_cons_succ]
              refine wpAnyH_ready (rs := [7]) (by kernel_rfl) (by simp) ?_
              refine AllReadyH.cons rfl (fun K hK => ?_) AllReadyH.nil
              go_simp
              refine hK.out _ _ trivial (fun hHeld => ?_)
              clear hK K
              try simp only [Act.put, List.getElem_toArray, List.getElem_cons_succ, List.getElem_cons_zero, List.setIfInBounds_toArray, List.set_cons_zero, List.set_cons_succ]
              refine wpAnyH_ready (rs := [8]) (by kernel_rfl) (by simp) ?_
              refine AllReadyH.cons rfl (fun K hK => ?_) AllReadyH.nil
              refine step_append_lies _ rfl _ _ 24 rfl w2.heap.size 44 ti _ 9 136 Tryz.underlying24 hi0 hz0 hz1 hz2 rfl (by omega) _ _ _ rfl (HO.alloc _) ⟨w4.heap.size, 0, none⟩ 1 1 [.string z0, .int .i64 z1, .int .i64 z2, .string z3, .slice z4 z5 z6, .slice z7 z8 z9, .int .i64 z10, .slice z11 z12 z13, .int .i64 z14] rfl rfl (new_rule _ _ _ _ _ _ _ _ _ _ _ rfl) (by simp [Value.oneCell']) (by omega) (by unfold maxLen; omega) (by omega) (by simp; omega) (w4.heap.size + 1) (by simp) ?_
              intro gg cap1 w5 hown1 hgrow hat hlt1
              have lo := HO.lt
              have f5 : w5.heap[F]? = some (.cells #[.slice aK KL.length cK, .slice q5 acc.length c5] 26) := (hgrow.block F (by rw [World.size_alloc]; omega) (fun e => by have := (lo F e.symm).1; omega)).trans (old_at f4 _)
              obtain ⟨⟨n0, n1⟩, n2, n3⟩ := cells2f f5
              have NI := hideR (RowR.snoc (unhideR HI) (by omega) (by omega) (by omega) (by omega) (by omega) B4 (unhideR HBU4) (unhideR HE4) (unhideR HRD4) (unhideR HRU) hown1 hgrow (by rcases hat with h | h; exact .inl h; exact .inr (by simp [h])))
              clear g0 g1 g1' k0 k1 f4 hgrow hat hlt1 hown1 HO lo
              refine hK.out _ _ trivial (fun hHeld => ?_)
              clear hK K
              try simp only [Act.put, List.getElem_toArray, List.getElem_cons_succ, List.getElem_cons_zero, List.setIfInBounds_toArray, List.set_cons_zero, List.set_cons_succ]
              refine wpAnyH_take (i := 9) (v := ?_) rfl (by kernel_rfl) (by kernel_rfl) (by kernel_rfl) (fun _ _ _ h => h) (Or.inl ⟨by kernel_rfl, ?_⟩) (by assumption) ?_
              rotate_left
              · intro w hSw; (try dsimp only at hSw); go_simp; (try with_reducible rfl)
              try simp only [Act.put, List.getElem_toArray, List.getElem_cons_succ, List.getElem_cons_zero, List.setIfInBounds_toArray, List.set_cons_zero, List.set_cons_succ]
              refine wpAnyH_ready (rs := [10]) (by kernel_rfl) (by simp) ?_
              refine AllReadyH.cons rfl (fun K hK => ?_) AllReadyH.nil
              go_simp
              refine hK.out _ _ trivial (fun hHeld => ?_)
              clear hK K
              try simp only [Act.put, List.getElem_toArray, List.getElem_cons_succ, List.getElem_cons_zero, List.setIfInBounds_toArray, List.set_cons_zero, List.set_cons_succ]
              refine wpAnyH_done (by kernel_rfl) ?_ _
              go_wp2_with fail
              go_roundw
              case rel =>
                refine ⟨acc ++ [u4], r4, f', _, _, unhideR STEP, by omega, by omega, by rw [List.length_append, List.length_singleton]; omega, unhideR NI⟩
              case measure => rw [(unhideR NI).rd.left, (unhideR HI).rd.left]; exact hl4
            · have FIN : Hid (fileT r = .inl (q4, y4)) := by show _ = _; rw [unhideR ST, unhideR HS, rulesF_bad (.inr (unhideR HZ)) eu]
              have BF := hideR ((Bu2.bu (unhideR BU2) (unhideR HI).bu (by omega)).then ((Bu.of (bthen b3 (draws_b (k := 1) (w := w3) (B := w3.heap.size)))).then bu4))
              clear eu
              unfold wrongE
              go_wp2_with fail
              exact ⟨rfl, .inr ⟨q4, y4, unhideR FIN, rfl, unhideR BF⟩⟩
          · go_simp
            refine (unhideR CU _ (bthen b3 draws_b)).mono ?_
            clear CU
            rintro e w4 (⟨v4, u4, r4, eu, rfl, ru4, E4, hl4, rd4, bu4⟩ | ⟨q4, y4, eu, rfl, bu4⟩)
            · have STEP : Hid (rulesF (r.length + 1) [] r1 = rulesF f' (acc ++ [u4]) r4) := (unhideR HS).trans (rulesF_more (.inr (unhideR HZ)) eu)
              have hmost := rule_most eu
              have B4 := bthen b3 (draws_b (k := 1) (w := w3) (B := w3.heap.size))
              have HRU := hideR ru4
              obtain ⟨z0, z1, z2, z3, z4, z5, z6, z7, z8, z9, z10, z11, z12, z13, z14, rfl⟩ := ru4.form
              have HO := own_buT (ownL B4 (unhideR HI).own) bu4 (by omega)
              have hs4 := bu4.size
              have hs3 := B4.size
              have hs0 := (unhideR HI).bu.size
              have f4 : w4.heap[F]? = some (.cells #[.slice aK KL.length cK, .slice q5 acc.length c5] 26) := bu4.at ((B4.block F hlF).trans (unhideR HI).fb) (by omega)
              obtain ⟨⟨g0, g1⟩, k0, k1⟩ := cells2f f4
              have g1' : ∀ o, (w4.alloc o).cell? ⟨F, 1, none⟩ = some (.slice q5 acc.length c5) := fun o => ((Below.new1 o).cell (block_lt' g1)).trans g1
              have hF4 : F < w4.heap.size := (Array.getElem?_eq_some_iff.1 f4).1
              have HBU4 := hideR bu4
              have HRD4 := hideR rd4
              have HE4 := hideR E4
              obtain ⟨ti, hi0, hz0, hz1, hz2⟩ := info_parts rule_info
              clear ru4 bu4 rd4 E4 eu
              (try clear CS)
              refine hK.out _ _ trivial (fun hHeld => ?_)
              clear hK K
              try simp only [Act.put, List.getElem_toArray, List.getElem_cons_succ, List.getElem_cons_zero, List.setIfInBounds_toArray, List.set_cons_zero, List.set_cons_succ]
              refine wpAnyH_ready (rs := [1, 7]) (by kernel_rfl) (by simp) ?_
              refine AllReadyH.cons rfl (fun K hK => ?_) (AllReadyH.cons rfl (fun K hK => ?_) AllReadyH.nil)
              · go_simp
                refine hK.out _ _ trivial (fun hHeld => ?_)
                clear hK K
                try simp only [Act.put, List.getElem_toArray, List.getElem_cons_succ, List.getElem_cons_zero, List.setIfInBounds_toArray, List.set_cons_zero, List.set_cons_succ]
                refine wpAnyH_ready (rs := [7]) (by kernel_rfl) (by simp) ?_
                refine AllReadyH.cons rfl (fun K hK => ?_) AllReadyH.nil
                go_simp
                refine hK.out _ _ trivial (fun hHeld => ?_)
                clear hK K
                try simp only [Act.put, List.getElem_toArray, List.getElem_cons_succ, List.getElem_cons_zero, List.setIfInBounds_toArray, List.set_cons_zero, List.set_cons_succ]
                refine wpAnyH_ready (rs := [8]) (by kernel_rfl) (by simp) ?_
                refine AllReadyH.cons rfl (fun K hK => ?_) AllReadyH.nil
                refine step_append_lies _ rfl _ _ 24 rfl w2.heap.size 44 ti _ 9 136 Tryz.underlying24 hi0 hz0 hz1 hz2 rfl (by omega) _ _ _ rfl (HO.alloc _) ⟨w4.heap.size, 0, none⟩ 1 1 [.string z0, .int .i64 z1, .int .i64 z2, .string z3, .slice z4 z5 z6, .slice z7 z8 z9, .int .i64 z10, .slice z11 z12 z13, .int .i64 z14] rfl rfl (new_rule _ _ _ _ _ _ _ _ _ _ _ rfl) (by simp [Value.oneCell']) (by omega) (by unfold maxLen; omega) (by omega) (by simp; omega) (w4.heap.size + 1) (by simp) ?_
                intro gg cap1 w5 hown1 hgrow hat hlt1
                have lo := HO.lt
                have f5 : w5.heap[F]? = some (.cells #[.slice aK KL.length cK, .slice q5 acc.length c5] 26) := (hgrow.block F (by rw [World.size_alloc]; omega) (fun e => by have := (lo F e.symm).1; omega)).trans (old_at f4 _)
                obtain ⟨⟨n0, n1⟩, n2, n3⟩ := cells2f f5
                have NI := hideR (RowR.snoc (unhideR HI) (by omega) (by omega) (by omega) (by omega) (by omega) B4 (unhideR HBU4) (unhideR HE4) (unhideR HRD4) (unhideR HRU) hown1 hgrow (by rcases hat with h | h; exact .inl h; exact .inr (by simp [h])))
                clear g0 g1 g1' k0 k1 f4 hgrow hat hlt1 hown1 HO lo
                refine hK.out _ _ trivial (fun hHeld => ?_)
                clear hK K
                try simp only [Act.put, List.getElem_toArray, List.getElem_cons_succ, List.getElem_cons_zero, List.setIfInBounds_toArray, List.set_cons_zero, List.set_cons_succ]
                refine wpAnyH_take (i := 9) (v := ?_) rfl (by kernel_rfl) (by kernel_rfl) (by kernel_rfl) (fun _ _ _ h => h) (Or.inl ⟨by kernel_rfl, ?_⟩) (by assumption) ?_
                rotate_left
                · intro w hSw; (try dsimp only at hSw); go_simp; (try with_reducible rfl)
                try simp only [Act.put, List.getElem_toArray, List.getElem_cons_succ, List.getElem_cons_zero, List.setIfInBounds_toArray, List.set_cons_zero, List.set_cons_succ]
                refine wpAnyH_ready (rs := [10]) (by kernel_rfl) (by simp) ?_
                refine AllReadyH.cons rfl (fun K hK => ?_) AllReadyH.nil
                go_simp
                refine hK.out _ _ trivial (fun hHeld => ?_)
                clear hK K
                try simp only [Act.put, List.getElem_toArray, List.getElem_cons_succ, List.getElem_cons_zero, List.setIfInBounds_toArray, List.set_cons_zero, List.set_cons_succ]
                refine wpAnyH_done (by kernel_rfl) ?_ _
                go_wp2_with fail
                go_roundw
                case rel =>
                  refine ⟨acc ++ [u4], r4, f', _, _, unhideR STEP, by omega, by omega, by rw [List.length_append, List.length_singleton]; omega, unhideR NI⟩
                case measure => rw [(unhideR NI).rd.left, (unhideR HI).rd.left]; exact hl4
              · go_simp
                refine hK.out _ _ trivial (fun hHeld => ?_)
                clear hK K
                try simp only [Act.put, List.getElem_toArray, List.getElem_cons_succ, List.getElem_cons_zero, List.setIfInBounds_toArray, List.set_cons_zero, List.set_cons_succ]
                refine wpAnyH_ready (rs := [1]) (by kernel_rfl) (by simp) ?_
                refine AllReadyH.cons rfl (fun K hK => ?_) AllReadyH.nil
                go_simp
                refine hK.out _ _ trivial (fun hHeld => ?_)
                clear hK K
                try simp only [Act.put, List.getElem_toArray, List.getElem_cons_succ, List.getElem_cons_zero, List.setIfInBounds_toArray, List.set_cons_zero, List.set_cons_succ]
                refine wpAnyH_ready (rs := [8]) (by kernel_rfl) (by simp) ?_
                refine AllReadyH.cons rfl (fun K hK => ?_) AllReadyH.nil
                refine step_append_lies _ rfl _ _ 24 rfl w2.heap.size 44 ti _ 9 136 Tryz.underlying24 hi0 hz0 hz1 hz2 rfl (by omega) _ _ _ rfl (HO.alloc _) ⟨w4.heap.size, 0, none⟩ 1 1 [.string z0, .int .i64 z1, .int .i64 z2, .string z3, .slice z4 z5 z6, .slice z7 z8 z9, .int .i64 z10, .slice z11 z12 z13, .int .i64 z14] rfl rfl (new_rule _ _ _ _ _ _ _ _ _ _ _ rfl) (by simp [Value.oneCell']) (by omega) (by unfold maxLen; omega) (by omega) (by simp; omega) (w4.heap.size + 1) (by simp) ?_
                intro gg cap1 w5 hown1 hgrow hat hlt1
                have lo := HO.lt
                have f5 : w5.heap[F]? = some (.cells #[.slice aK KL.length cK, .slice q5 acc.length c5] 26) := (hgrow.block F (by rw [World.size_alloc]; omega) (fun e => by have := (lo F e.symm).1; omega)).trans (old_at f4 _)
                obtain ⟨⟨n0, n1⟩, n2, n3⟩ := cells2f f5
                have NI := hideR (RowR.snoc (unhideR HI) (by omega) (by omega) (by omega) (by omega) (by omega) B4 (unhideR HBU4) (unhideR HE4) (unhideR HRD4) (unhideR HRU) hown1 hgrow (by rcases hat with h | h; exact .inl h; exact .inr (by simp [h])))
                clear g0 g1 g1' k0 k1 f4 hgrow hat hlt1 hown1 HO lo
                refine hK.out _ _ trivial (fun hHeld => ?_)
                clear hK K
                try simp only [Act.put, List.getElem_toArray, List.getElem_cons_succ, List.getElem_cons_zero, List.setIfInBounds_toArray, List.set_cons_zero, List.set_cons_succ]
                refine wpAnyH_take (i := 9) (v := ?_) rfl (by kernel_rfl) (by kernel_rfl) (by kernel_rfl) (fun _ _ _ h => h) (Or.inl ⟨by kernel_rfl, ?_⟩) (by assumption) ?_
                rotate_left
                · intro w hSw; (try dsimp only at hSw); go_simp; (try with_reducible rfl)
                try simp only [Act.put, List.getElem_toArray, List.getElem_cons_succ, List.getElem_cons_zero, List.setIfInBounds_toArray, List.set_cons_zero, List.set_cons_succ]
                refine wpAnyH_ready (rs := [10]) (by kernel_rfl) (by simp) ?_
                refine AllReadyH.cons rfl (fun K hK => ?_) AllReadyH.nil
                go_simp
                refine hK.out _ _ trivial (fun hHeld => ?_)
                clear hK K
                try simp only [Act.put, List.getElem_toArray, List.getElem_cons_succ, List.getElem_cons_zero, List.setIfInBounds_toArray, List.set_cons_zero, List.set_cons_succ]
                refine wpAnyH_done (by kernel_rfl) ?_ _
                go_wp2_with fail
                go_roundw
                case rel =>
                  refine ⟨acc ++ [u4], r4, f', _, _, unhideR STEP, by omega, by omega, by rw [List.length_append, List.length_singleton]; omega, unhideR NI⟩
                case measure => rw [(unhideR NI).rd.left, (unhideR HI).rd.left]; exact hl4
            · have FIN : Hid (fileT r = .inl (q4, y4)) := by show _ = _; rw [unhideR ST, unhideR HS, rulesF_bad (.inr (unhideR HZ)) eu]
              have BF := hideR ((Bu2.bu (unhideR BU2) (unhideR HI).bu (by omega)).then ((Bu.of (bthen b3 (draws_b (k := 1) (w := w3) (B := w3.heap.size)))).then bu4))
              clear eu
              unfold wrongE
              go_wp2_with fail
              exact ⟨rfl, .inr ⟨q4, y4, unhideR FIN, rfl, unhideR BF⟩⟩
end Go.Proofs.YtamefbpdnblbdaaGreatDoor.R

namespace Go.Proofs.YtamefbpdnblbdaaGreatDoor.F
open Go.RowKit Go.Proofs.YtamefbpdnblbdaaGreatDoor.T Go.Proofs.YtamefbpdnblbdaaGreatDoor.R
set_option linter.unusedVariables false
set_option linter.unusedSimpArgs false

theorem smP_up : ∀ (n m : Nat), n ≤ m → ∀ p, smP n p → smP m p := by
  intro n
  induction n with
  | zero => intro m _ p h; exact h.elim
  | succ n ih =>
    intro m hm p h
    cases m with
    | zero => omega
    | succ m =>
      obtain ⟨h1, h2, h3, h4⟩ := h
      exact ⟨h1, h2, h3, fun x hx => ih m (by omega) x (h4 x hx)⟩
def RuleN (n : Nat) (B : Nat) (w : World) (v : Value) (u : RU) : Prop :=
  ∃ x0 x1 x2 x3 x4 a c, v = .agg #[.string (strOfNums u.1), .int .i64 u.2.1, x0, x1, x2, x3, x4, .slice a u.2.2.2.1.length c, .int .i64 u.2.2.2.2] ∧ U.isBytes u.1 ∧ fits u.2.1 ∧ PartB B n w (.agg #[x0, x1, x2, x3, x4]) u.2.2.1 ∧ Rs w a u.2.2.2.1.length c u.2.2.2.1 ∧ Lo B a u.2.2.2.1.length ∧ fits u.2.2.2.2
theorem RuleN.up {n m : Nat} (h : n ≤ m) {B : Nat} {w : World} {v : Value} {u : RU} (k : RuleN n B w v u) : RuleN m B w v u := by
  obtain ⟨x0, x1, x2, x3, x4, a, c, e, h1, h2, h3, h4⟩ := k
  exact ⟨x0, x1, x2, x3, x4, a, c, e, h1, h2, PartB.up n m h _ _ h3, h4⟩
theorem RuleN.kept {n : Nat} {B B' : Nat} {w X : World} {v : Value} {u : RU} (h : RuleN n B w v u) (k : ∀ g, g < B → g < B' ∧ X.heap[g]? = w.heap[g]?) (kr : KR w X) : RuleN n B' X v u := by
  obtain ⟨x0, x1, x2, x3, x4, a, c, e, h1, h2, h3, h4, h5, h6⟩ := h
  obtain ⟨h4', h5'⟩ := rs_lo k h4 h5
  exact ⟨x0, x1, x2, x3, x4, a, c, e, h1, h2, PartB.kept k kr n _ _ h3, h4', h5', h6⟩
theorem rules_n {D : Nat → Prop} {w : World} (hD : ∀ g, D g → g < w.heap.size) : ∀ (l : List RU) (cs : List Value), RuC (RuleV D w) l cs → ∃ n, RuC (RuleN n w.heap.size w) l cs := by
  intro l
  induction l with
  | nil => intro cs h; exact ⟨0, h⟩
  | cons u l ih =>
    intro cs h
    obtain ⟨x0, x1, x2, x3, x4, x5, x6, x7, x8, cs', e, hv, ht⟩ := h
    obtain ⟨n, hn⟩ := ih _ ht
    obtain ⟨y0, y1, y2, y3, y4, a, c, e1, h1, h2, ⟨k, h3⟩, h4, h5, h6⟩ := hv
    exact ⟨max n k, x0, x1, x2, x3, x4, x5, x6, x7, x8, cs', e, ⟨y0, y1, y2, y3, y4, a, c, e1, h1, h2, PartB.up k _ (Nat.le_max_right ..) _ _ (PartB.of hD _ _ _ h3), h4, ty_lo h5 _, h6⟩, RuC.mono (fun v p hp => hp.up (Nat.le_max_left ..)) _ _ hn⟩
theorem RuC.at {P : Value → RU → Prop} : ∀ (l : List RU) (cs : List Value) (j : Nat), RuC P l cs → j < l.length → ∃ c0 c1 c2 c3 c4 c5 c6 c7 c8 u, cs[9 * j]? = some c0 ∧ cs[9 * j + 1]? = some c1 ∧ cs[9 * j + 2]? = some c2 ∧ cs[9 * j + 3]? = some c3 ∧ cs[9 * j + 4]? = some c4 ∧ cs[9 * j + 5]? = some c5 ∧ cs[9 * j + 6]? = some c6 ∧ cs[9 * j + 7]? = some c7 ∧ cs[9 * j + 8]? = some c8 ∧ P (.agg #[c0, c1, c2, c3, c4, c5, c6, c7, c8]) u ∧ l.drop j = u :: l.drop (j + 1) ∧ u ∈ l := by
  intro l
  induction l with
  | nil => intro cs j _ hj; simp at hj
  | cons x l ih =>
    intro cs j h hj
    obtain ⟨c0, c1, c2, c3, c4, c5, c6, c7, c8, cs', rfl, hv, ht⟩ := h
    cases j with
    | zero => exact ⟨c0, c1, c2, c3, c4, c5, c6, c7, c8, x, rfl, rfl, rfl, rfl, rfl, rfl, rfl, rfl, rfl, hv, rfl, List.mem_cons_self ..⟩
    | succ j =>
      obtain ⟨d0, d1, d2, d3, d4, d5, d6, d7, d8, u, h0, h1, h2, h3, h4, h5, h6, h7, h8, hp, hd, hm⟩ := ih cs' j ht (by simp at hj; omega)
      have key : ∀ (i : Nat) (v : Value), cs'[9 * j + i]? = some v → (c0 :: c1 :: c2 :: c3 :: c4 :: c5 :: c6 :: c7 :: c8 :: cs')[9 * (j + 1) + i]? = some v := fun i v hv => by
        rw [show 9 * (j + 1) + i = (9 * j + i) + 1 + 1 + 1 + 1 + 1 + 1 + 1 + 1 + 1 by omega]
        simpa using hv
      exact ⟨d0, d1, d2, d3, d4, d5, d6, d7, d8, u, key 0 _ h0, key 1 _ h1, key 2 _ h2, key 3 _ h3, key 4 _ h4, key 5 _ h5, key 6 _ h6, key 7 _ h7, key 8 _ h8, hp, by simpa using hd, List.mem_cons_of_mem _ hm⟩
theorem rules_at {B n : Nat} {w : World} {a : Option Addr} {len cap : Nat} {L : List RU} {cs : List Value} (hr : Row5 (fun g => g < B) w a len cap cs) (hc : RuC (RuleN n B w) L cs) (j : Nat) (hj : j < L.length) :
    ∃ g off k S a1 n1 c1 a2 n2 c2 aN cN u, a = some ⟨g, off, none⟩ ∧ g < w.heap.size ∧ w.cell? ⟨g, off + 9 * j, none⟩ = some (.string (strOfNums u.1)) ∧ w.cell? ⟨g, off + 9 * j + 1, none⟩ = some (.int .i64 u.2.1) ∧ w.cell? ⟨g, off + 9 * j + 2, none⟩ = some (.int .i64 k) ∧ w.cell? ⟨g, off + 9 * j + 3, none⟩ = some (.string S) ∧ w.cell? ⟨g, off + 9 * j + 4, none⟩ = some (.slice a1 n1 c1) ∧ w.cell? ⟨g, off + 9 * j + 5, none⟩ = some (.slice a2 n2 c2) ∧ w.cell? ⟨g, off + 9 * j + 6, none⟩ = some (.int .i64 (atP u.2.2.1)) ∧ w.cell? ⟨g, off + 9 * j + 7, none⟩ = some (.slice aN u.2.2.2.1.length cN) ∧ w.cell? ⟨g, off + 9 * j + 8, none⟩ = some (.int .i64 u.2.2.2.2) ∧
      PartB B n w (.agg #[.int .i64 k, .string S, .slice a1 n1 c1, .slice a2 n2 c2, .int .i64 (atP u.2.2.1)]) u.2.2.1 ∧ U.isBytes u.1 ∧ Rs w aN u.2.2.2.1.length cN u.2.2.2.1 ∧ Lo B aN u.2.2.2.1.length ∧ L.drop j = u :: L.drop (j + 1) ∧ u ∈ L := by
  obtain ⟨d0, d1, d2, d3, d4, d5, d6, d7, d8, u, h0, h1, h2, h3, h4, h5, h6, h7, h8, hv, hd, hm⟩ := RuC.at L cs j hc hj
  obtain ⟨x0, x1, x2, x3, x4, aN, cN, ev, q1, q2, q3, q4, q5, q6⟩ := hv
  simp only [Value.agg.injEq, Array.mk.injEq, List.cons.injEq, and_true] at ev
  obtain ⟨rfl, rfl, rfl, rfl, rfl, rfl, rfl, rfl, rfl⟩ := ev
  obtain ⟨k, S, a1, n1, c1, a2, n2, c2, rfl, rfl, rfl, rfl, rfl, -⟩ := PartB.form q3
  obtain ⟨g, off, ha, -, q0⟩ := hr.2.2 _ _ h0
  have key : ∀ i u, cs[9 * j + i]? = some u → w.cell? ⟨g, off + 9 * j + i, none⟩ = some u := fun i u hu => by
    obtain ⟨g', off', ha', -, q⟩ := hr.2.2 _ _ hu
    rw [ha] at ha'
    injection ha' with ha'
    injection ha' with e1 e2
    subst e1; subst e2
    rw [Nat.add_assoc]; exact q
  exact ⟨g, off, k, S, a1, n1, c1, a2, n2, c2, aN, cN, u, ha, block_lt' q0, q0, key 1 _ h1, key 2 _ h2, key 3 _ h3, key 4 _ h4, key 5 _ h5, key 6 _ h6, key 7 _ h7, key 8 _ h8, q3, q1, q4, q5, hd, hm⟩
theorem ruleA_or {ns : List (List Int)} {n : Nat} {p : PT} {m : Mk} (h : kdP p = 5) : ruleA ns n p m = eachM (partM ns n 0) (psP p) m [] := by unfold ruleA; rw [if_pos h]
theorem ruleA_one {ns : List (List Int)} {n : Nat} {p : PT} {m : Mk} (h : kdP p ≠ 5) : ruleA ns n p m = ((partM ns n 0 m [] p).1, [(partM ns n 0 m [] p).2]) := by unfold ruleA; rw [if_neg h]
set_option maxRecDepth 20000 in
set_option maxHeartbeats 4000000 in
theorem frule_l {ns : List (List Int)} {n : Nat} {D : Nat → Prop} {w : World} {B b m : Nat} {s : Mk} (pv : Value) (p : PT) (hB : B ≤ w.heap.size) (hD : ∀ k, w.heap.size ≤ k → D k) (h : Mak D w B b m ns 0 s) (hp : PartB B n w pv p) (hs : smP n p) :
    Calls Tryz.prog 62 #[.pointer (some ⟨b, 0, none⟩), pv] w (AlR D B b m ns 0 w (ruleA ns n p s)) := by
  obtain ⟨mv, hm⟩ := h
  have B1 : ∀ o, Below w.heap.size w (w.alloc o) := fun o => Below.new1 o
  have CE := hideR (fun W (bW : Below w.heap.size w W) => feach_l (part_c ns n 0) (D := D) (w := W) pv p 0 0 none 0 0 (by have := bW.size; omega) (fun k hk => hD k (by have := bW.size; omega)) ⟨mv, hm.later bW⟩ (PartB.kept (fun g hg => ⟨hg, bW.block g (by omega)⟩) (KR.of bW) (n + 1) _ p (PartB.up n (n + 1) (Nat.le_succ n) _ _ hp)) (smP_up n (n + 1) (Nat.le_succ n) p hs))
  have CP := hideR (fun W (bW : Below w.heap.size w W) => part_c ns n 0 D W B b m s (.slice none 0 0) [] pv p (by have := bW.size; omega) (fun k hk => hD k (by have := bW.size; omega)) ⟨mv, (hm.later bW).weak (fun g _ hd => ⟨hd, by simp [Value.ownBlock]⟩)⟩ (LV.nil _ _) (PartB.kept (fun g hg => ⟨hg, bW.block g (by omega)⟩) (KR.of bW) n _ p hp) hs)
  obtain ⟨k, S, a1, n1, c1, a2, n2, c2, q, rfl, hk, -⟩ := part_form (PartB.up n (n + 1) (Nat.le_succ n) _ _ hp)
  have HDD := hideR hD
  have hlt := hm.lt
  by_cases h5 : k = 5
  · have FIN : Hid (ruleA ns n p s = eachM (partM ns n 0) (psP p) s []) := ruleA_or (hk.symm.trans h5)
    have hbb : (k == 5) = true := by rw [h5]; rfl
    clear hm hp hs hD hk h5 CP
    generalize eachM (partM ns n 0) (psP p) s [] = r at *
    go_enter Tryz.func62, Tryz.ntmps62
    go_wp2_with fail
    refine (unhideR CE _ (B1 _)).mono ?_
    clear CE
    rintro e w1 ⟨av, rfl, alt1, mk1, fl1, l9⟩
    obtain ⟨va1, va2, rfl, -, -⟩ := alt1.form
    have RES := hideR (show AlR D B b m ns 0 w r (.returned (.slice va1 r.2.length va2)) w1 from ⟨_, rfl, alt1, mk1, (Fl.of (x := none) (B1 _)).then fl1 (fun g e => by cases e), l9⟩)
    clear alt1 mk1 fl1 l9
    go_wp2_with fail
    go_ret
    rw [unhideR FIN]
    exact unhideR RES
  · have FIN : Hid (ruleA ns n p s = ((partM ns n 0 s [] p).1, [(partM ns n 0 s [] p).2])) := ruleA_one (fun c => h5 (hk.trans c))
    have hbb : (k == 5) = false := beq_eq_false_iff_ne.2 h5
    clear hm hp hs hD hk h5 CE
    generalize partM ns n 0 s [] p = r at *
    go_enter Tryz.func62, Tryz.ntmps62
    go_wp2_with fail
    refine (unhideR CP _ (B1 _)).mono ?_
    clear CP
    rintro e w1 lf
    have lf := lf.mono_w (Fl.of (x := none) (B1 _))
    obtain ⟨v1, rfl, lv1, ⟨mv1, mk1⟩, fl1, nx1⟩ := lf
    have s1 := fl1.size
    have I1 := hideR (show InvL D B b m ns 0 (.slice none 0 0) w r.1 v1 r.2 w1 from ⟨lv1, ⟨mv1, mk1⟩, fl1, nx1⟩)
    obtain ⟨ya, yc, rfl⟩ := lv1.form
    clear lv1 mk1 fl1 nx1
    go_wp2_with fail
    go_ret
    rw [unhideR FIN]
    obtain ⟨lv, ⟨mv3, mk3⟩, fl3, nx3⟩ := (unhideR I1).more (Below.new1 (.cells #[.slice ya r.2.length yc] 46))
    exact ⟨_, rfl, AltV.one (Kp.weak _ (fun _ h => h)) (lv.symsN nx3 (unhideR HDD)) (heap_alloc_new _ _) (unhideR HDD _ s1), ⟨mv3, mk3.weak (fun g _ hd => hd.1)⟩, fl3, by simp⟩
end Go.Proofs.YtamefbpdnblbdaaGreatDoor.F

namespace Go.Proofs.YtamefbpdnblbdaaGreatDoor.F
open Go.RowKit Go.Proofs.YtamefbpdnblbdaaGreatDoor.T Go.Proofs.YtamefbpdnblbdaaGreatDoor.R
set_option linter.unusedVariables false
set_option linter.unusedSimpArgs false

structure RsV (B n : Nat) (w : World) (a : Option Addr) (len cap : Nat) (L : List RU) : Prop where
  hlen : L.length = len
  hsmall : len ≤ 1000000
  hcap : len ≤ cap ∧ cap ≤ maxLen
  hcs : ∃ cs, Row5 (fun g => g < B) w a len cap cs ∧ RuC (RuleN n B w) L cs
theorem RsV.kept {B n : Nat} {w X : World} {a : Option Addr} {len cap : Nat} {L : List RU} (h : RsV B n w a len cap L) (k : ∀ g, g < B → X.heap[g]? = w.heap[g]?) (kr : KR w X) : RsV B n X a len cap L := by
  obtain ⟨h1, h2, h3, cs, h4, h5⟩ := h
  exact ⟨h1, h2, h3, cs, h4.kept (fun g hg => ⟨hg, k g hg⟩), RuC.mono (fun u p hp => hp.kept (fun g hg => ⟨hg, k g hg⟩) kr) _ _ h5⟩
def Fb (B : Nat) (w X : World) : Prop := Below B w X ∧ KR w X ∧ w.heap.size ≤ X.heap.size
theorem Fb.refl (B : Nat) (w : World) : Fb B w w := ⟨Below.refl _ _, KR.refl _, Nat.le_refl _⟩
theorem Fb.then {B : Nat} {w X Y : World} (h : Fb B w X) (k : Fb B X Y) : Fb B w Y := ⟨h.1.trans k.1, h.2.1.then k.2.1, Nat.le_trans h.2.2 k.2.2⟩
theorem Fb.of {B : Nat} {w X : World} (hB : B ≤ w.heap.size) (h : Below w.heap.size w X) : Fb B w X := ⟨h.mono hB, KR.of h, h.size⟩
theorem Fb.rules {B n : Nat} {w X : World} (f : Fb B w X) {a : Option Addr} {len cap : Nat} {L : List RU} (h : RsV B n w a len cap L) : RsV B n X a len cap L := h.kept (fun g hg => f.1.block g hg) f.2.1
theorem Fb.fl {B b : Nat} {w X : World} (h : Fl B b none w X) (hB : B ≤ w.heap.size) {cs : Array Value} {fr : Nat × Nat} (hb : w.heap[b]? = some (.cells cs 77 fr)) : Fb B w X := ⟨h.below hB, h.kr hb (no_x _), h.size⟩
theorem cells9 {W : World} {g : Nat} {x0 x1 x2 x3 x4 x5 x6 x7 x8 : Value} {t : TypeId} (h : W.heap[g]? = some (.cells #[x0, x1, x2, x3, x4, x5, x6, x7, x8] t)) : W.cell? ⟨g, 1, none⟩ = some x1 ∧ W.cell? ⟨g, 7, none⟩ = some x7 := by
  refine ⟨?_, ?_⟩ <;> simp [World.cell?, h]
theorem idx_mem (x : List Int) : ∀ (ns : List (List Int)) (i : Nat), idx x ns i = none ↔ x ∉ ns := by
  intro ns
  induction ns with
  | nil => intro i; simp [idx]
  | cons y ns ih =>
    intro i
    unfold idx
    by_cases h : x = y
    · rw [if_pos h]; simp [h]
    · rw [if_neg h, ih (i + 1)]; simp [h]
theorem twice_yes {u : RU} {l : List RU} {ns : List (List Int)} (h : u.1 ∈ ns) : twice (u :: l) ns = some u.2.2.2.2 := by unfold twice; rw [if_pos h]
theorem twice_no {u : RU} {l : List RU} {ns : List (List Int)} (h : u.1 ∉ ns) : twice (u :: l) ns = twice l (ns ++ [u.1]) := by
  conv => lhs; unfold twice
  rw [if_neg h]
theorem rules_one {B n : Nat} {w : World} {a : Option Addr} {len cap : Nat} {L : List RU} (h : RsV B n w a len cap L) (j : Nat) (hj : j < len) :
    ∃ g off k S a1 n1 c1 a2 n2 c2 aN cN u, a = some ⟨g, off, none⟩ ∧ g < w.heap.size ∧ w.cell? ⟨g, off + 9 * j, none⟩ = some (.string (strOfNums u.1)) ∧ w.cell? ⟨g, off + 9 * j + 1, none⟩ = some (.int .i64 u.2.1) ∧ w.cell? ⟨g, off + 9 * j + 2, none⟩ = some (.int .i64 k) ∧ w.cell? ⟨g, off + 9 * j + 3, none⟩ = some (.string S) ∧ w.cell? ⟨g, off + 9 * j + 4, none⟩ = some (.slice a1 n1 c1) ∧ w.cell? ⟨g, off + 9 * j + 5, none⟩ = some (.slice a2 n2 c2) ∧ w.cell? ⟨g, off + 9 * j + 6, none⟩ = some (.int .i64 (atP u.2.2.1)) ∧ w.cell? ⟨g, off + 9 * j + 7, none⟩ = some (.slice aN u.2.2.2.1.length cN) ∧ w.cell? ⟨g, off + 9 * j + 8, none⟩ = some (.int .i64 u.2.2.2.2) ∧
      PartB B n w (.agg #[.int .i64 k, .string S, .slice a1 n1 c1, .slice a2 n2 c2, .int .i64 (atP u.2.2.1)]) u.2.2.1 ∧ U.isBytes u.1 ∧ Rs w aN u.2.2.2.1.length cN u.2.2.2.1 ∧ Lo B aN u.2.2.2.1.length ∧ L.drop j = u :: L.drop (j + 1) ∧ u ∈ L := by
  obtain ⟨h1, -, -, cs, h4, h5⟩ := h
  exact rules_at h4 h5 j (by omega)
theorem MakV.name {D : Nat → Prop} {w X : World} {B b m : Nat} {ns : List (List Int)} {d : Int} {v : Value} {s : Mk} (h : MakV D w B b m ns d v s) {x : List Int} (hn : Nm X m (ns ++ [x])) (hs : X.heap.size = w.heap.size) (ho : ∀ k, k ≠ m → X.heap[k]? = w.heap[k]?) (e1 : X.os = w.os) (e2 : X.tape = w.tape) (e3 : X.output = w.output) : MakV D X B b m (ns ++ [x]) d v s ∧ Fb B w X := by
  obtain ⟨h1, h2, h3, h4, h5, ⟨h6, cs, own, hp⟩, h7⟩ := h
  have cl : ∀ (g : Nat) (c : Array Value) (t : TypeId) (fr : Nat × Nat), w.heap[g]? = some (.cells c t fr) → X.heap[g]? = some (.cells c t fr) := fun g c t fr hg => by
    rw [ho g (fun e => ?_)]; exact hg
    subst e
    obtain ⟨es, ck, hm, -⟩ := h7
    rw [hg] at hm; cases hm
  have kr : KR w X := fun g c fr hg => cl g c _ fr hg
  refine ⟨⟨h1, h2, h3, h4, cl _ _ _ _ h5, ⟨h6, cs, ?_, PrC.kp ⟨kr, fun g cur fr t _ hd hg => ⟨hd, cl _ _ _ _ hg⟩⟩ _ _ hp⟩, hn⟩, ⟨⟨e1, e2, e3, by omega, fun k hk => ho k (by omega)⟩, kr, by omega⟩⟩
  refine own_keep own (fun g o hg hgo => ?_)
  obtain ⟨c, hc⟩ := own_blk own g hg
  rw [hc] at hgo; injection hgo with hgo; subst hgo
  exact cl _ _ _ _ hc
set_option maxRecDepth 20000 in
set_option maxHeartbeats 8000000 in
theorem fbegin_l {n : Nat} {D : Nat → Prop} {w : World} {B b m : Nat} {v : Value} (a : Option Addr) (len cap : Nat) (L : List RU) (hB : B ≤ w.heap.size) (hm : MakV D w B b m [] 0 v ⟨[], 2147483647, 0, 0⟩) (hr : RsV B n w a len cap L) (hN : ∀ u ∈ L, u.2.2.2.1.length ≤ 1000000) :
    Calls Tryz.prog 60 #[.pointer (some ⟨b, 0, none⟩), .slice a len cap] w fun e w' => e = .returned (.tuple #[]) ∧ (∃ v' ns', MakV D w' B b m ns' 0 v' (begM L) ∧ ((begM L).why = 0 → ns' = L.map (·.1))) ∧ Fb B w w' := by
  obtain ⟨hc1, hc2⟩ := hr.hcap
  unfold maxLen at hc2
  have hsm := hr.hsmall
  have HLL := hideR hr.hlen
  have HN := hideR hN
  have HM0 := hideR hm
  have HR0 := hideR hr
  have HBB := hideR hB
  have hlt := hm.lt
  clear hm hr hN
  go_enter Tryz.func60, Tryz.ntmps60
  go_wp2_with fail
  go_loopw [12] (fun i wr => ∃ (j : Nat), j ≤ len ∧ i = .int .i64 (j : Int) ∧ Hid (twice L [] = twice (L.drop j) ((L.take j).map (·.1))) ∧ Hid (MakV D wr B b m ((L.take j).map (·.1)) 0 v ⟨[], 2147483647, 0, 0⟩) ∧ Hid (Fb B w wr) ∧ w.heap.size ≤ wr.heap.size) (fun i _ => len - (intOf i).toNat)
  case atStart => exact ⟨0, Nat.zero_le _, rfl, rfl, HM0, Fb.refl _ _, Nat.le_refl _⟩
  case round =>
    obtain ⟨j, hj, rfl, hT, hM, hF, hsw⟩ := hrel
    by_cases hlt2 : j < len
    · obtain ⟨g, off, k1, S1, a1, n1, c1, a2, n2, c2, aN, cN, u, rfl, hg, q0, q1, q2, q3, q4, q5, q6, q7, q8, pv1, hx, hrs, hty, hd, hu⟩ := rules_one ((unhideR hF).rules (unhideR HR0)) j hlt2
      have HD1 := hideR hd
      have n9 : j * 9 = 9 * j := by omega
      have hb1 := (unhideR hM).lt
      have LK : ∀ o k, (Instr.lookup 72 (.map (some m)) (.string (strOfNums u.1)) true).run Tryz.prog ((wr.alloc o).drewN k) = .ok (.tuple #[.int .i64 (((idx u.1 ((L.take j).map (·.1)) 0).getD 0 : Nat) : Int), .bool (idx u.1 ((L.take j).map (·.1)) 0).isSome]) ((wr.alloc o).drewN k) := fun o k => Nm.get (((unhideR hM).later (bthen (Below.new1 o) (draws_b (k := k)))).names) hx
      have C1 : ∀ o, (wr.alloc o).cell? ⟨b, 1, none⟩ = some (.map (some m)) := fun o => (mcells ((unhideR hM).later (Below.new1 o)).cells).2.1
      have HU := hideR (show u ∈ L ∧ U.isBytes u.1 from ⟨hu, hx⟩)
      clear pv1 hrs hty hd hu hx
      cases hi : idx u.1 ((L.take j).map (·.1)) 0 with
      | some i =>
        have FIN : Hid (begM L = ⟨[], 2147483647, u.2.2.2.2, 6⟩) := by
          show _ = _
          have e : twice L [] = some u.2.2.2.2 := by
            rw [unhideR hT, unhideR HD1]
            refine twice_yes ?_
            by_cases c : u.1 ∈ (L.take j).map (·.1)
            · exact c
            · rw [(idx_mem _ _ 0).2 c] at hi; cases hi
          unfold begM; rw [e]
        rw [hi] at LK
        simp only [Option.getD_some, Option.isSome_some] at LK
        have CS := hideR (fun W (bW : Below wr.heap.size wr W) => fstop_l ((unhideR hM).later bW) u.2.2.2.2 6)
        generalize strOfNums u.1 = S0 at *
        generalize u.2.1 = mk1 at *
        generalize atP u.2.2.1 = q at *
        generalize u.2.2.2.2 = qr at *
        generalize u.2.2.2.1.length = nN at *
        go_wp2_with fail
        go_quiet (fail)
        go_wp2_with fail
        refine (unhideR CS _ (bthen (Below.new1 _) draws_b)).mono ?_
        rintro e w2 ⟨rfl, hm2, f2⟩
        have hBr : B ≤ wr.heap.size := Nat.le_trans (unhideR HBB) hsw
        have F2 : Fb B w w2 := (unhideR hF).then ((Fb.of hBr (Below.new1 (.cells #[.string S0, .int .i64 mk1, .int .i64 k1, .string S1, .slice a1 n1 c1, .slice a2 n2 c2, .int .i64 q, .slice aN nN cN, .int .i64 qr] 44))).then ((Fb.of (w := wr.alloc (.cells #[.string S0, .int .i64 mk1, .int .i64 k1, .string S1, .slice a1 n1 c1, .slice a2 n2 c2, .int .i64 q, .slice aN nN cN, .int .i64 qr] 44)) (by simp; omega) (draws_b (k := _))).then (Fb.fl f2 (Nat.le_trans hBr (by simp)) (((unhideR hM).later (bthen (Below.new1 (.cells #[.string S0, .int .i64 mk1, .int .i64 k1, .string S1, .slice a1 n1 c1, .slice a2 n2 c2, .int .i64 q, .slice aN nN cN, .int .i64 qr] 44)) draws_b)).cells))))
        have HF2 := hideR F2
        have HM2 := hideR hm2
        clear CS hm2 f2 F2
        go_wp2_with fail
        (try simp only [Exit.inBlock, Exit.then])
        refine bodyPost_ret (results_none rfl _ _ _) rfl ?_
        exact ⟨rfl, ⟨_, _, by rw [unhideR FIN]; exact unhideR HM2, fun c => by rw [unhideR FIN] at c; cases c⟩, unhideR HF2⟩
      | none =>
        have NXT : Hid (twice L [] = twice (L.drop (j + 1)) ((L.take (j + 1)).map (·.1)) ∧ (L.take (j + 1)).map (·.1) = (L.take j).map (·.1) ++ [u.1]) := by
          have hlj : j < L.length := by rw [unhideR HLL]; exact hlt2
          have e : (L.take (j + 1)).map (·.1) = (L.take j).map (·.1) ++ [u.1] := by
            have hg : L[j] = u := by have := unhideR HD1; rw [List.drop_eq_getElem_cons hlj] at this; injection this
            rw [← List.take_concat_get hlj, hg]; simp
          refine ⟨?_, e⟩
          rw [unhideR hT, unhideR HD1, e]
          exact twice_no ((idx_mem _ _ 0).1 hi)
        have hlN : ((L.take j).map (·.1)).length = j := by rw [List.length_map, List.length_take]; have := unhideR HLL; omega
        have PUT := hideR (fun (W : World) (bW : Below wr.heap.size wr W) => Nm.put (((unhideR hM).later bW).names) (unhideR HU).2 hi)
        rw [hlN] at PUT
        have HX := hideR hi
        rw [hi] at LK
        simp only [Option.getD_none, Option.isSome_none] at LK
        clear hlN hi
        generalize hx1 : u.1 = x1 at *
        generalize strOfNums x1 = S0 at *
        generalize u.2.1 = mk1 at *
        generalize atP u.2.2.1 = q at *
        generalize u.2.2.2.2 = qr at *
        generalize u.2.2.2.1.length = nN at *
        go_wp2_with fail
        go_quiet (fail)
        go_wp2_with fail
        have BW : Below wr.heap.size wr ((wr.alloc (.cells #[.string S0, .int .i64 mk1, .int .i64 k1, .string S1, .slice a1 n1 c1, .slice a2 n2 c2, .int .i64 q, .slice aN nN cN, .int .i64 qr] 44)).drewN nq) := bthen (Below.new1 _) draws_b
        have P1 : ((wr.alloc (.cells #[.string S0, .int .i64 mk1, .int .i64 k1, .string S1, .slice a1 n1 c1, .slice a2 n2 c2, .int .i64 q, .slice aN nN cN, .int .i64 qr] 44)).drewN nq).cell? ⟨b, 1, none⟩ = some (.map (some m)) := C1 _
        have P2 : ((wr.alloc (.cells #[.string S0, .int .i64 mk1, .int .i64 k1, .string S1, .slice a1 n1 c1, .slice a2 n2 c2, .int .i64 q, .slice aN nN cN, .int .i64 qr] 44)).drewN nq).cell? ⟨wr.heap.size, 0, none⟩ = some (.string S0) := by have := heap_alloc_new wr (.cells #[.string S0, .int .i64 mk1, .int .i64 k1, .string S1, .slice a1 n1 c1, .slice a2 n2 c2, .int .i64 q, .slice aN nN cN, .int .i64 qr] 44); show (wr.alloc (.cells #[.string S0, .int .i64 mk1, .int .i64 k1, .string S1, .slice a1 n1 c1, .slice a2 n2 c2, .int .i64 q, .slice aN nN cN, .int .i64 qr] 44)).cell? _ = _; unfold World.cell?; simp only [this]; rfl
        generalize (wr.alloc (.cells #[.string S0, .int .i64 mk1, .int .i64 k1, .string S1, .slice a1 n1 c1, .slice a2 n2 c2, .int .i64 q, .slice aN nN cN, .int .i64 qr] 44)).drewN nq = WW at *
        obtain ⟨w4, MU, nm4, s4, o4, e41, e42, e43⟩ := unhideR PUT WW.drew (bthen BW (draws_b (k := 1)))
        obtain ⟨m4, f4⟩ := ((unhideR hM).later (bthen BW (draws_b (k := 1)))).name nm4 s4 o4 e41 e42 e43
        have hsW : WW.drew.heap.size = WW.heap.size := rfl
        have sBW := BW.size
        have hbm : b ≠ m := by
          intro e
          obtain ⟨es, ck, hmm, -⟩ := (unhideR hM).names
          rw [← e, (unhideR hM).cells] at hmm; cases hmm
        have hgm : wr.heap.size ≠ m := by
          have := (unhideR hM).names.lt; omega
        have P1b : w4.cell? ⟨b, 1, none⟩ = some (.map (some m)) := (mcells m4.cells).2.1
        have P2b : w4.cell? ⟨wr.heap.size, 0, none⟩ = some (.string S0) := (World.cell?_of_block (o4 _ hgm)).trans P2
        have HM4 := hideR m4
        have HF4 := hideR ((unhideR hF).then ((Fb.of (Nat.le_trans (unhideR HBB) hsw) (bthen BW (draws_b (k := 1)))).then f4))
        have s5 := (unhideR HF4).2.2
        clear m4 f4 nm4 s4 o4 e41 e42 e43 LK C1 q0 q1 q2 q3 q4 q5 q6 q7 q8 PUT
        refine wp_region_held_drew (S := (fun w' => w'.cell? ⟨b, 1, none⟩ = some (.map (some m)) ∧ w'.cell? ⟨wr.heap.size, 0, none⟩ = some (.string S0))) (by kernel_rfl) (⟨P1, P2⟩) (fun hHeld => ?_)
        refine wpAnyH_take (i := 0) (v := ?_) rfl (by kernel_rfl) (by kernel_rfl) (by kernel_rfl) (fun _ _ _ h => h) (Or.inl ⟨by kernel_rfl, ?_⟩) (by assumption) ?_
        rotate_left
        · intro w hSw; obtain ⟨y0, y1⟩ := hSw; (try clear hSw); go_simp; (try with_reducible rfl)
        try simp only [Act.put, List.getElem_toArray, List.getElem_cons_succ, List.getElem_cons_zero, List.setIfInBounds_toArray, List.set_cons_zero, List.set_cons_succ]
        refine wpAnyH_take (i := 1) (v := ?_) rfl (by kernel_rfl) (by kernel_rfl) (by kernel_rfl) (fun _ _ _ h => h) (Or.inl ⟨by kernel_rfl, ?_⟩) (by assumption) ?_
        rotate_left
        · intro w hSw; obtain ⟨y0, y1⟩ := hSw; (try clear hSw); go_simp; (try with_reducible rfl)
        try simp only [Act.put, List.getElem_toArray, List.getElem_cons_succ, List.getElem_cons_zero, List.setIfInBounds_toArray, List.set_cons_zero, List.set_cons_succ]
        refine wpAnyH_take (i := 2) (v := ?_) rfl (by kernel_rfl) (by kernel_rfl) (by kernel_rfl) (fun _ _ _ h => h) (Or.inl ⟨by kernel_rfl, ?_⟩) (by assumption) ?_
        rotate_left
        · intro w hSw; obtain ⟨y0, y1⟩ := hSw; (try clear hSw); go_simp; (try with_reducible rfl)
        try simp only [Act.put, List.getElem_toArray, List.getElem_cons_succ, List.getElem_cons_zero, List.setIfInBounds_toArray, List.set_cons_zero, List.set_cons_succ]
        refine wpAnyH_take (i := 3) (v := ?_) rfl (by kernel_rfl) (by kernel_rfl) (by kernel_rfl) (fun _ _ _ h => h) (Or.inl ⟨by kernel_rfl, ?_⟩) (by assumption) ?_
        rotate_left
        · intro w hSw; obtain ⟨y0, y1⟩ := hSw; (try clear hSw); go_simp; (try with_reducible rfl)
        try simp only [Act.put, List.getElem_toArray, List.getElem_cons_succ, List.getElem_cons_zero, List.setIfInBounds_toArray, List.set_cons_zero, List.set_cons_succ]
        refine wpAnyH_take (i := 4) (v := ?_) rfl (by kernel_rfl) (by kernel_rfl) (by kernel_rfl) (fun _ _ _ h => h) (Or.inl ⟨by kernel_rfl, ?_⟩) (by assumption) ?_
        rotate_left
        · intro w hSw; obtain ⟨y0, y1⟩ := hSw; (try clear hSw); go_simp; (try with_reducible rfl)
        try simp only [Act.put, List.getElem_toArray, List.getElem_cons_succ, List.getElem_cons_zero, List.setIfInBounds_toArray, List.set_cons_zero, List.set_cons_succ]
        refine wpAnyH_take (i := 5) (v := ?_) rfl (by kernel_rfl) (by kernel_rfl) (by kernel_rfl) (fun _ _ _ h => h) (Or.inl ⟨by kernel_rfl, ?_⟩) (by assumption) ?_
        rotate_left
        · intro w hSw; obtain ⟨y0, y1⟩ := hSw; (try clear hSw); go_simp; (try with_reducible rfl)
        try simp only [Act.put, List.getElem_toArray, List.getElem_cons_succ, List.getElem_cons_zero, List.setIfInBounds_toArray, List.set_cons_zero, List.set_cons_succ]
        refine wpAnyH_take (i := 6) (v := ?_) rfl (by kernel_rfl) (by kernel_rfl) (by kernel_rfl) (fun _ _ _ h => h) (Or.inl ⟨by kernel_rfl, ?_⟩) (by assumption) ?_
        rotate_left
        · intro w hSw; obtain ⟨y0, y1⟩ := hSw; (try clear hSw); go_simp; (try with_reducible rfl)
        try simp only [Act.put, List.getElem_toArray, List.getElem_cons_succ, List.getElem_cons_zero, List.setIfInBounds_toArray, List.set_cons_zero, List.set_cons_succ]
        refine wpAnyH_ready (rs := [7]) (by kernel_rfl) (by simp) ?_
        refine AllReadyH.cons rfl (fun K hK => ?_) AllReadyH.nil
        go_simp
        refine hK.out _ _ (⟨P1b, P2b⟩) (fun hHeld => ?_)
        clear hK K
        try simp only [Act.put, List.getElem_toArray, List.getElem_cons_succ, List.getElem_cons_zero, List.setIfInBounds_toArray, List.set_cons_zero, List.set_cons_succ]
        refine wpAnyH_done (by kernel_rfl) ?_ _
        clear P1 P2 P1b P2b hHeld MU
        go_wp2_with fail
        go_roundw
        case rel => exact ⟨j + 1, by omega, by simp, (unhideR NXT).1, by show MakV _ _ _ _ _ _ _ _ _; rw [(unhideR NXT).2]; exact unhideR HM4, HF4, s5⟩
        case measure => simp [intOf]; omega
    · obtain rfl : j = len := by omega
      have TW : Hid (twice L [] = none) := by
        show _ = _
        rw [unhideR hT, List.drop_eq_nil_of_le (by rw [unhideR HLL]; exact Nat.le_refl _)]
        rfl
      by_cases hz : j = 0
      · have FIN : Hid (begM L = ⟨[], 2147483647, 0, 7⟩) := by
          show _ = _
          unfold begM; rw [unhideR TW]; simp only
          rw [if_pos (by rw [unhideR HLL]; exact .inl hz)]
        have b0 : ((j : Int) == 0) = true := by rw [hz]; rfl
        clear hz hT TW
        have CS := hideR (fun W (bW : Below wr.heap.size wr W) => fstop_l ((unhideR hM).later bW) 0 7)
        go_wp2_with fail
        refine (unhideR CS _ (Below.refl _ _)).mono ?_
        rintro e w2 ⟨rfl, hm2, f2⟩
        have HF2 := hideR ((unhideR hF).then (Fb.fl f2 (Nat.le_trans (unhideR HBB) hsw) (unhideR hM).cells))
        have HM2 := hideR hm2
        clear CS hm2 f2
        go_wp2_with fail
        (try simp only [Exit.inBlock, Exit.then])
        refine bodyPost_ret (results_none rfl _ _ _) rfl ?_
        exact ⟨rfl, ⟨_, _, by rw [unhideR FIN]; exact unhideR HM2, fun c => by rw [unhideR FIN] at c; cases c⟩, unhideR HF2⟩
      · by_cases h60 : 60 < j
        · have FIN : Hid (begM L = ⟨[], 2147483647, 0, 7⟩) := by
            show _ = _
            unfold begM; rw [unhideR TW]; simp only
            rw [if_pos (by rw [unhideR HLL]; exact .inr h60)]
          have b0 : ((j : Int) == 0) = false := beq_eq_false_iff_ne.2 (by omega)
          have b60 : decide ((60 : Int) < (j : Int)) = true := decide_eq_true (by omega)
          clear hz h60 hT TW
          have CS := hideR (fun W (bW : Below wr.heap.size wr W) => fstop_l ((unhideR hM).later bW) 0 7)
          go_wp2_with fail
          refine (unhideR CS _ (Below.refl _ _)).mono ?_
          rintro e w2 ⟨rfl, hm2, f2⟩
          have HF2 := hideR ((unhideR hF).then (Fb.fl f2 (Nat.le_trans (unhideR HBB) hsw) (unhideR hM).cells))
          have HM2 := hideR hm2
          clear CS hm2 f2
          go_wp2_with fail
          (try simp only [Exit.inBlock, Exit.then])
          refine bodyPost_ret (results_none rfl _ _ _) rfl ?_
          exact ⟨rfl, ⟨_, _, by rw [unhideR FIN]; exact unhideR HM2, fun c => by rw [unhideR FIN] at c; cases c⟩, unhideR HF2⟩
        · have b0 : ((j : Int) == 0) = false := beq_eq_false_iff_ne.2 (by omega)
          have b60 : decide ((60 : Int) < (j : Int)) = false := decide_eq_false (by omega)
          have FIN : Hid (begM L = ⟨L.map (fun r => (([] : List (List SY)), r.2.1, r.2.2.2.1)), 2147483647, 0, 0⟩) := by
            show _ = _
            unfold begM; rw [unhideR TW]; simp only
            rw [if_neg (by rw [unhideR HLL]; omega)]
          have NMS : Hid ((L.take j).map (·.1) = L.map (·.1)) := by show _ = _; rw [List.take_of_length_le (by rw [unhideR HLL]; exact Nat.le_refl _)]
          have HM1 : Hid (MakV D wr B b m (L.map (·.1)) 0 v ⟨[], 2147483647, 0, 0⟩) := by have := unhideR hM; rw [unhideR NMS] at this; exact this
          clear hM hT TW
          have hz0 : 0 < j := by omega
          have h60b : j ≤ 60 := by omega
          clear hz h60
          generalize hWr : wr = W0 at *
          clear hWr
          go_wp2_with fail
          go_loopw [52] (fun i wr => ∃ (i2 : Nat) (v' : Value), i2 ≤ j ∧ i = .int .i64 (i2 : Int) ∧ Hid (MakV D wr B b m (L.map (·.1)) 0 v' ⟨(L.take i2).map (fun r => (([] : List (List SY)), r.2.1, r.2.2.2.1)), 2147483647, 0, 0⟩) ∧ Hid (Fb B w wr) ∧ w.heap.size ≤ wr.heap.size) (fun i _ => j - (intOf i).toNat)
          case atStart => exact ⟨0, v, Nat.zero_le _, rfl, HM1, hF, hsw⟩
          case round =>
            obtain ⟨i2, v', hj2, rfl, hM2, hF2, hsw2⟩ := hrel
            by_cases hlt2 : i2 < j
            · obtain ⟨g, off, k1, S1, a1, n1, c1, a2, n2, c2, aN, cN, u, rfl, hg, q0, q1, q2, q3, q4, q5, q6, q7, q8, pv1, hx, hrs, hty, hd, hu⟩ := rules_one ((unhideR hF2).rules (unhideR HR0)) i2 hlt2
              have HD1 := hideR hd
              have n9 : i2 * 9 = 9 * i2 := by omega
              have hb1 := (unhideR hM2).lt
              have NXT : Hid ((L.take (i2 + 1)).map (fun r => (([] : List (List SY)), r.2.1, r.2.2.2.1)) = (L.take i2).map (fun r => (([] : List (List SY)), r.2.1, r.2.2.2.1)) ++ [([], u.2.1, u.2.2.2.1)]) := by
                have hlj : i2 < L.length := by rw [unhideR HLL]; exact hlt2
                have hgg : L[i2] = u := by have := unhideR HD1; rw [List.drop_eq_getElem_cons hlj] at this; injection this
                show _ = _
                rw [← List.take_concat_get hlj, hgg]; simp
              have CC := hideR (fun W (bW : Below wr.heap.size wr W) => cloneR_l aN cN u.2.2.2.1 W (hrs.later bW (Nat.le_refl _)) (unhideR HN u hu))
              generalize hMD : (L.take i2).map (fun r => (([] : List (List SY)), r.2.1, r.2.2.2.1)) = MD at *
              have HMD := hideR hMD
              clear hMD
              obtain ⟨va, vc, rfl⟩ := (unhideR hM2).made.form
              have hml60 : MD.length ≤ 60 := (unhideR hM2).made.1
              have hml59 : Hid (MD.length < 60) := by show _ < _; rw [← unhideR HMD, List.length_map, List.length_take, unhideR HLL]; omega
              clear pv1 hrs hty hd hu hx
              generalize strOfNums u.1 = S0 at *
              generalize u.2.1 = mk1 at *
              generalize atP u.2.2.1 = q at *
              generalize u.2.2.2.2 = qr at *
              generalize u.2.2.2.1 = NN at *
              generalize hnN : NN.length = nN at *
              have HNN := hideR hnN
              clear hnN
              go_wp2_with fail
              have BW : Below wr.heap.size wr (wr.alloc (.cells #[.string S0, .int .i64 mk1, .int .i64 k1, .string S1, .slice a1 n1 c1, .slice a2 n2 c2, .int .i64 q, .slice aN nN cN, .int .i64 qr] 44)) := Below.new1 _
              have P0 : (wr.alloc (.cells #[.string S0, .int .i64 mk1, .int .i64 k1, .string S1, .slice a1 n1 c1, .slice a2 n2 c2, .int .i64 q, .slice aN nN cN, .int .i64 qr] 44)).heap[wr.heap.size]? = some (.cells #[.string S0, .int .i64 mk1, .int .i64 k1, .string S1, .slice a1 n1 c1, .slice a2 n2 c2, .int .i64 q, .slice aN nN cN, .int .i64 qr] 44) := heap_alloc_new wr _
              generalize wr.alloc (.cells #[.string S0, .int .i64 mk1, .int .i64 k1, .string S1, .slice a1 n1 c1, .slice a2 n2 c2, .int .i64 q, .slice aN nN cN, .int .i64 qr] 44) = WW at *
              have BD : Below wr.heap.size wr WW.drew := bthen BW (draws_b (k := 1))
              have c0 : WW.drew.cell? ⟨b, 0, none⟩ = some (.slice va MD.length vc) := (mcells ((unhideR hM2).later BD).cells).1
              have hgl : wr.heap.size < WW.heap.size := (Array.getElem?_eq_some_iff.1 P0).1
              have hsD : WW.drew.heap.size = WW.heap.size := rfl
              obtain ⟨ti, hi0, hz0, hz1, hz2⟩ := info_parts prod_info
              clear q0 q1 q2 q3 q4 q5 q6 q7 q8
              refine wp_region_held_drew (S := (fun w' => w'.heap[wr.heap.size]? = some (.cells #[.string S0, .int .i64 mk1, .int .i64 k1, .string S1, .slice a1 n1 c1, .slice a2 n2 c2, .int .i64 q, .slice aN nN cN, .int .i64 qr] 44))) (by kernel_rfl) (P0) (fun hHeld => ?_)
              refine wpAnyH_take (i := 0) (v := ?_) rfl (by kernel_rfl) (by kernel_rfl) (by kernel_rfl) (fun _ _ _ h => h) (Or.inl ⟨by kernel_rfl, ?_⟩) (by assumption) ?_
              rotate_left
              · intro w hSw; obtain ⟨y1, y7⟩ := cells9 hSw; (try clear hSw); go_simp; (try with_reducible rfl)
              try simp only [Act.put, List.getElem_toArray, List.getElem_cons_succ, List.getElem_cons_zero, List.setIfInBounds_toArray, List.set_cons_zero, List.set_cons_succ]
              refine wpAnyH_take (i := 1) (v := ?_) rfl (by kernel_rfl) (by kernel_rfl) (by kernel_rfl) (fun _ _ _ h => h) (Or.inl ⟨by kernel_rfl, ?_⟩) (by assumption) ?_
              rotate_left
              · intro w hSw; obtain ⟨y1, y7⟩ := cells9 hSw; (try clear hSw); go_simp; (try with_reducible rfl)
              try simp only [Act.put, List.getElem_toArray, List.getElem_cons_succ, List.getElem_cons_zero, List.setIfInBounds_toArray, List.set_cons_zero, List.set_cons_succ]
              refine wpAnyH_take (i := 2) (v := ?_) rfl (by kernel_rfl) (by kernel_rfl) (by kernel_rfl) (fun _ _ _ h => h) (Or.inl ⟨by kernel_rfl, ?_⟩) (by assumption) ?_
              rotate_left
              · intro w hSw; obtain ⟨y1, y7⟩ := cells9 hSw; (try clear hSw); go_simp; (try with_reducible rfl)
              try simp only [Act.put, List.getElem_toArray, List.getElem_cons_succ, List.getElem_cons_zero, List.setIfInBounds_toArray, List.set_cons_zero, List.set_cons_succ]
              refine wpAnyH_take (i := 3) (v := ?_) rfl (by kernel_rfl) (by kernel_rfl) (by kernel_rfl) (fun _ _ _ h => h) (Or.inl ⟨by kernel_rfl, ?_⟩) (by assumption) ?_
              rotate_left
              · intro w hSw; obtain ⟨y1, y7⟩ := cells9 hSw; (try clear hSw); go_simp; (try with_reducible rfl)
              try simp only [Act.put, List.getElem_toArray, List.getElem_cons_succ, List.getElem_cons_zero, List.setIfInBounds_toArray, List.set_cons_zero, List.set_cons_succ]
              refine wpAnyH_take (i := 5) (v := ?_) rfl (by kernel_rfl) (by kernel_rfl) (by kernel_rfl) (fun _ _ _ h => h) (Or.inl ⟨by kernel_rfl, ?_⟩) (by assumption) ?_
              rotate_left
              · intro w hSw; obtain ⟨y1, y7⟩ := cells9 hSw; (try clear hSw); go_simp; (try with_reducible rfl)
              try simp only [Act.put, List.getElem_toArray, List.getElem_cons_succ, List.getElem_cons_zero, List.setIfInBounds_toArray, List.set_cons_zero, List.set_cons_succ]
              refine wpAnyH_take (i := 6) (v := ?_) rfl (by kernel_rfl) (by kernel_rfl) (by kernel_rfl) (fun _ _ _ h => h) (Or.inl ⟨by kernel_rfl, ?_⟩) (by assumption) ?_
              rotate_left
              · intro w hSw; obtain ⟨y1, y7⟩ := cells9 hSw; (try clear hSw); go_simp; (try with_reducible rfl)
              try simp only [Act.put, List.getElem_toArray, List.getElem_cons_succ, List.getElem_cons_zero, List.setIfInBounds_toArray, List.set_cons_zero, List.set_cons_succ]
              refine wpAnyH_take (i := 7) (v := ?_) rfl (by kernel_rfl) (by kernel_rfl) (by kernel_rfl) (fun _ _ _ h => h) (Or.inl ⟨by kernel_rfl, ?_⟩) (by assumption) ?_
              rotate_left
              · intro w hSw; obtain ⟨y1, y7⟩ := cells9 hSw; (try clear hSw); go_simp; (try with_reducible rfl)
              try simp only [Act.put, List.getElem_toArray, List.getElem_cons_succ, List.getElem_cons_zero, List.setIfInBounds_toArray, List.set_cons_zero, List.set_cons_succ]
              refine wpAnyH_take (i := 8) (v := ?_) rfl (by kernel_rfl) (by kernel_rfl) (by kernel_rfl) (fun _ _ _ h => h) (Or.inl ⟨by kernel_rfl, ?_⟩) (by assumption) ?_
              rotate_left
              · intro w hSw; obtain ⟨y1, y7⟩ := cells9 hSw; (try clear hSw); go_simp; (try with_reducible rfl)
              try simp only [Act.put, List.getElem_toArray, List.getElem_cons_succ, List.getElem_cons_zero, List.setIfInBounds_toArray, List.set_cons_zero, List.set_cons_succ]
              refine wpAnyH_ready (rs := [4, 9]) (by kernel_rfl) (by simp) ?_
              refine AllReadyH.cons rfl (fun K hK => ?_) (AllReadyH.cons rfl (fun K hK => ?_) AllReadyH.nil)
              · go_simp
                refine hK.out _ _ (P0) (fun hHeld => ?_)
                clear hK K
                try simp only [Act.put, List.getElem_toArray, List.getElem_cons_succ, List.getElem_cons_zero, List.setIfInBounds_toArray, List.set_cons_zero, List.set_cons_succ]
                refine wpAnyH_ready (rs := [9]) (by kernel_rfl) (by simp) ?_
                refine AllReadyH.cons rfl (fun K hK => ?_) AllReadyH.nil
                go_simp
                refine (unhideR CC _ BD).mono ?_
                clear CC
                rintro e w3 ⟨ac, cc, rfl, r3, y3, b3⟩
                have P3 : w3.heap[wr.heap.size]? = some (.cells #[.string S0, .int .i64 mk1, .int .i64 k1, .string S1, .slice a1 n1 c1, .slice a2 n2 c2, .int .i64 q, .slice aN nN cN, .int .i64 qr] 44) := (b3.block _ hgl).trans P0
                have B3 : Below wr.heap.size wr w3 := bthen BD b3
                have c03 : w3.cell? ⟨b, 0, none⟩ = some (.slice va MD.length vc) := (mcells ((unhideR hM2).later B3).cells).1
                have c03a : ∀ o, (w3.alloc o).cell? ⟨b, 0, none⟩ = some (.slice va MD.length vc) := fun o => (mcells ((unhideR hM2).later (bthen B3 (Below.new1 o))).cells).1
                have h3 := ((unhideR hM2).later B3).lt
                obtain ⟨-, cs3, HO, hpr3⟩ := ((unhideR hM2).later B3).made
                have HO : w3.ownsRow B 39 3 (.slice va MD.length vc) MD.length cs3 := HO
                have HPR3 := hideR hpr3
                have HM3 := hideR ((unhideR hM2).later B3)
                have HB3 := hideR B3
                have hs3 := B3.size
                have hbw3 := Nat.le_trans (unhideR HBB) (Nat.le_trans hsw2 hs3)
                have HR3 := hideR r3
                have HY3 := hideR y3
                clear r3 y3 b3 B3 c0 hpr3
                refine hK.out _ _ (P3) (fun hHeld => ?_)
                clear hK K
                try simp only [Act.put, List.getElem_toArray, List.getElem_cons_succ, List.getElem_cons_zero, List.setIfInBounds_toArray, List.set_cons_zero, List.set_cons_succ]
                refine wpAnyH_take (i := 10) (v := ?_) rfl (by kernel_rfl) (by kernel_rfl) (by kernel_rfl) (fun _ _ _ h => h) (Or.inl ⟨by kernel_rfl, ?_⟩) (by assumption) ?_
                rotate_left
                · intro w hSw; skip; (try clear hSw); go_simp; (try with_reducible rfl)
                try simp only [Act.put, List.getElem_toArray, List.getElem_cons_succ, List.getElem_cons_zero, List.setIfInBounds_toArray, List.set_cons_zero, List.set_cons_succ]
                refine wpAnyH_ready (rs := [11]) (by kernel_rfl) (by simp) ?_
                refine AllReadyH.cons rfl (fun K hK => ?_) AllReadyH.nil
                go_simp
                refine hK.out _ _ (old_at P3 _) (fun hHeld => ?_)
                clear hK K
                try simp only [Act.put, List.getElem_toArray, List.getElem_cons_succ, List.getElem_cons_zero, List.setIfInBounds_toArray, List.set_cons_zero, List.set_cons_succ]
                refine wpAnyH_ready (rs := [12]) (by kernel_rfl) (by simp) ?_
                refine AllReadyH.cons rfl (fun K hK => ?_) AllReadyH.nil
                refine step_append_lies _ rfl _ _ 30 rfl B 39 ti _ 3 56 Tryz.underlying30 hi0 hz0 hz1 hz2 rfl (by omega) _ _ _ rfl (HO.alloc _) ⟨w3.heap.size, 0, none⟩ 1 1 [.slice none 0 0, .int .i64 mk1, .slice ac nN cc] rfl rfl (new_prod _ _ _ _ _ rfl) (by simp [Value.oneCell'])  (by omega) (by unfold maxLen; omega) (by omega) (by simp; omega) (w3.heap.size + 1) (by simp) ?_
                intro gg cap1 w6 hown1 hgrow hat hlt1
                have hb6 : w6.heap[b]? = some (.cells (mkCells (.slice va MD.length vc) m b 0 ⟨MD, 2147483647, 0, 0⟩) 77) := (hgrow.block b (by rw [World.size_alloc]; omega) (fun e => (unhideR HM3).made_ne b e.symm rfl)).trans (old_at (unhideR HM3).cells _)
                obtain ⟨u0, -, -, -, -, -, z0, -, -, -, -⟩ := mcells hb6
                have hlw6 : b < w6.heap.size := (Array.getElem?_eq_some_iff.1 hb6).1
                have P6 : w6.heap[wr.heap.size]? = some (.cells #[.string S0, .int .i64 mk1, .int .i64 k1, .string S1, .slice a1 n1 c1, .slice a2 n2 c2, .int .i64 q, .slice aN nN cN, .int .i64 qr] 44) := (hgrow.block _ (by rw [World.size_alloc]; have := (Array.getElem?_eq_some_iff.1 P3).1; omega) (fun e => by have := HO.lt _ e.symm; obtain ⟨cz, hcz⟩ := own_blk HO _ e.symm; rw [P3] at hcz; injection hcz with hcz; injection hcz with _ hcz; exact absurd hcz (by decide))).trans (old_at P3 _)
                have G6 := (unhideR HM3).grow (W := w3.alloc (.cells #[.slice none 0 0, .int .i64 mk1, .slice ac nN cc] 39)) (Below.new1 _) (unhideR hml59) (unhideR HPR3) (p := ([], mk1, NN)) (AltV.none _ _) (⟨ac, cc, by rw [unhideR HNN], by rw [unhideR HNN]; exact (unhideR HR3).later (Below.new1 _) (Nat.le_refl _), (rs_kr (KR.of (Below.new1 _)) (unhideR HR3) (unhideR HY3)).2⟩) hown1 hgrow (by rcases hat with h | h; exact .inl h; exact .inr (by simp [h]))
                have HM6 := hideR G6.1
                have HF6 := hideR ((unhideR hF2).then ((Fb.of (Nat.le_trans (unhideR HBB) hsw2) (unhideR HB3)).then (Fb.fl G6.2 hbw3 (unhideR HM3).cells)))
                have s6 := (unhideR HF6).2.2
                have P6b : (w6.setCell ⟨b, 0, none⟩ (.slice (some ⟨gg, 0, none⟩) (MD.length + 1) cap1)).heap[wr.heap.size]? = some (.cells #[.string S0, .int .i64 mk1, .int .i64 k1, .string S1, .slice a1 n1 c1, .slice a2 n2 c2, .int .i64 q, .slice aN nN cN, .int .i64 qr] 44) := other_at P6 (by omega) _
                clear hb6 hown1 hgrow hat hlt1 G6 HO
                refine hK.out _ _ (P6) (fun hHeld => ?_)
                clear hK K
                try simp only [Act.put, List.getElem_toArray, List.getElem_cons_succ, List.getElem_cons_zero, List.setIfInBounds_toArray, List.set_cons_zero, List.set_cons_succ]
                refine wpAnyH_take (i := 13) (v := ?_) rfl (by kernel_rfl) (by kernel_rfl) (by kernel_rfl) (fun _ _ _ h => h) (Or.inl ⟨by kernel_rfl, ?_⟩) (by assumption) ?_
                rotate_left
                · intro w hSw; skip; (try clear hSw); go_simp; (try with_reducible rfl)
                try simp only [Act.put, List.getElem_toArray, List.getElem_cons_succ, List.getElem_cons_zero, List.setIfInBounds_toArray, List.set_cons_zero, List.set_cons_succ]
                refine wpAnyH_take (i := 14) (v := ?_) rfl (by kernel_rfl) (by kernel_rfl) (by kernel_rfl) (fun _ _ _ h => h) (Or.inl ⟨by kernel_rfl, ?_⟩) (by assumption) ?_
                rotate_left
                · intro w hSw; skip; (try clear hSw); go_simp; (try with_reducible rfl)
                try simp only [Act.put, List.getElem_toArray, List.getElem_cons_succ, List.getElem_cons_zero, List.setIfInBounds_toArray, List.set_cons_zero, List.set_cons_succ]
                refine wpAnyH_ready (rs := [15]) (by kernel_rfl) (by simp) ?_
                refine AllReadyH.cons rfl (fun K hK => ?_) AllReadyH.nil
                go_simp
                refine hK.out _ _ (P6b) (fun hHeld => ?_)
                clear hK K
                try simp only [Act.put, List.getElem_toArray, List.getElem_cons_succ, List.getElem_cons_zero, List.setIfInBounds_toArray, List.set_cons_zero, List.set_cons_succ]
                refine wpAnyH_done (by kernel_rfl) ?_ _
                go_wp2_with fail
                go_roundw
                case rel => exact ⟨i2 + 1, _, by omega, by simp, by show MakV _ _ _ _ _ _ _ _ _; rw [unhideR NXT]; exact unhideR HM6, HF6, s6⟩
                case measure => simp [intOf]; omega
              · go_simp
                refine (unhideR CC _ BD).mono ?_
                clear CC
                rintro e w3 ⟨ac, cc, rfl, r3, y3, b3⟩
                have P3 : w3.heap[wr.heap.size]? = some (.cells #[.string S0, .int .i64 mk1, .int .i64 k1, .string S1, .slice a1 n1 c1, .slice a2 n2 c2, .int .i64 q, .slice aN nN cN, .int .i64 qr] 44) := (b3.block _ hgl).trans P0
                have B3 : Below wr.heap.size wr w3 := bthen BD b3
                have c03 : w3.cell? ⟨b, 0, none⟩ = some (.slice va MD.length vc) := (mcells ((unhideR hM2).later B3).cells).1
                have c03a : ∀ o, (w3.alloc o).cell? ⟨b, 0, none⟩ = some (.slice va MD.length vc) := fun o => (mcells ((unhideR hM2).later (bthen B3 (Below.new1 o))).cells).1
                have h3 := ((unhideR hM2).later B3).lt
                obtain ⟨-, cs3, HO, hpr3⟩ := ((unhideR hM2).later B3).made
                have HO : w3.ownsRow B 39 3 (.slice va MD.length vc) MD.length cs3 := HO
                have HPR3 := hideR hpr3
                have HM3 := hideR ((unhideR hM2).later B3)
                have HB3 := hideR B3
                have hs3 := B3.size
                have hbw3 := Nat.le_trans (unhideR HBB) (Nat.le_trans hsw2 hs3)
                have HR3 := hideR r3
                have HY3 := hideR y3
                clear r3 y3 b3 B3 c0 hpr3
                refine hK.out _ _ (P3) (fun hHeld => ?_)
                clear hK K
                try simp only [Act.put, List.getElem_toArray, List.getElem_cons_succ, List.getElem_cons_zero, List.setIfInBounds_toArray, List.set_cons_zero, List.set_cons_succ]
                refine wpAnyH_take (i := 10) (v := ?_) rfl (by kernel_rfl) (by kernel_rfl) (by kernel_rfl) (fun _ _ _ h => h) (Or.inl ⟨by kernel_rfl, ?_⟩) (by assumption) ?_
                rotate_left
                · intro w hSw; skip; (try clear hSw); go_simp; (try with_reducible rfl)
                try simp only [Act.put, List.getElem_toArray, List.getElem_cons_succ, List.getElem_cons_zero, List.setIfInBounds_toArray, List.set_cons_zero, List.set_cons_succ]
                refine wpAnyH_ready (rs := [4, 11]) (by kernel_rfl) (by simp) ?_
                refine AllReadyH.cons rfl (fun K hK => ?_) (AllReadyH.cons rfl (fun K hK => ?_) AllReadyH.nil)
                · go_simp
                  refine hK.out _ _ (P3) (fun hHeld => ?_)
                  clear hK K
                  try simp only [Act.put, List.getElem_toArray, List.getElem_cons_succ, List.getElem_cons_zero, List.setIfInBounds_toArray, List.set_cons_zero, List.set_cons_succ]
                  refine wpAnyH_ready (rs := [11]) (by kernel_rfl) (by simp) ?_
                  refine AllReadyH.cons rfl (fun K hK => ?_) AllReadyH.nil
                  go_simp
                  refine hK.out _ _ (old_at P3 _) (fun hHeld => ?_)
                  clear hK K
                  try simp only [Act.put, List.getElem_toArray, List.getElem_cons_succ, List.getElem_cons_zero, List.setIfInBounds_toArray, List.set_cons_zero, List.set_cons_succ]
                  refine wpAnyH_ready (rs := [12]) (by kernel_rfl) (by simp) ?_
                  refine AllReadyH.cons rfl (fun K hK => ?_) AllReadyH.nil
                  refine step_append_lies _ rfl _ _ 30 rfl B 39 ti _ 3 56 Tryz.underlying30 hi0 hz0 hz1 hz2 rfl (by omega) _ _ _ rfl (HO.alloc _) ⟨w3.heap.size, 0, none⟩ 1 1 [.slice none 0 0, .int .i64 mk1, .slice ac nN cc] rfl rfl (new_prod _ _ _ _ _ rfl) (by simp [Value.oneCell'])  (by omega) (by unfold maxLen; omega) (by omega) (by simp; omega) (w3.heap.size + 1) (by simp) ?_
                  intro gg cap1 w6 hown1 hgrow hat hlt1
                  have hb6 : w6.heap[b]? = some (.cells (mkCells (.slice va MD.length vc) m b 0 ⟨MD, 2147483647, 0, 0⟩) 77) := (hgrow.block b (by rw [World.size_alloc]; omega) (fun e => (unhideR HM3).made_ne b e.symm rfl)).trans (old_at (unhideR HM3).cells _)
                  obtain ⟨u0, -, -, -, -, -, z0, -, -, -, -⟩ := mcells hb6
                  have hlw6 : b < w6.heap.size := (Array.getElem?_eq_some_iff.1 hb6).1
                  have P6 : w6.heap[wr.heap.size]? = some (.cells #[.string S0, .int .i64 mk1, .int .i64 k1, .string S1, .slice a1 n1 c1, .slice a2 n2 c2, .int .i64 q, .slice aN nN cN, .int .i64 qr] 44) := (hgrow.block _ (by rw [World.size_alloc]; have := (Array.getElem?_eq_some_iff.1 P3).1; omega) (fun e => by have := HO.lt _ e.symm; obtain ⟨cz, hcz⟩ := own_blk HO _ e.symm; rw [P3] at hcz; injection hcz with hcz; injection hcz with _ hcz; exact absurd hcz (by decide))).trans (old_at P3 _)
                  have G6 := (unhideR HM3).grow (W := w3.alloc (.cells #[.slice none 0 0, .int .i64 mk1, .slice ac nN cc] 39)) (Below.new1 _) (unhideR hml59) (unhideR HPR3) (p := ([], mk1, NN)) (AltV.none _ _) (⟨ac, cc, by rw [unhideR HNN], by rw [unhideR HNN]; exact (unhideR HR3).later (Below.new1 _) (Nat.le_refl _), (rs_kr (KR.of (Below.new1 _)) (unhideR HR3) (unhideR HY3)).2⟩) hown1 hgrow (by rcases hat with h | h; exact .inl h; exact .inr (by simp [h]))
                  have HM6 := hideR G6.1
                  have HF6 := hideR ((unhideR hF2).then ((Fb.of (Nat.le_trans (unhideR HBB) hsw2) (unhideR HB3)).then (Fb.fl G6.2 hbw3 (unhideR HM3).cells)))
                  have s6 := (unhideR HF6).2.2
                  have P6b : (w6.setCell ⟨b, 0, none⟩ (.slice (some ⟨gg, 0, none⟩) (MD.length + 1) cap1)).heap[wr.heap.size]? = some (.cells #[.string S0, .int .i64 mk1, .int .i64 k1, .string S1, .slice a1 n1 c1, .slice a2 n2 c2, .int .i64 q, .slice aN nN cN, .int .i64 qr] 44) := other_at P6 (by omega) _
                  clear hb6 hown1 hgrow hat hlt1 G6 HO
                  refine hK.out _ _ (P6) (fun hHeld => ?_)
                  clear hK K
                  try simp only [Act.put, List.getElem_toArray, List.getElem_cons_succ, List.getElem_cons_zero, List.setIfInBounds_toArray, List.set_cons_zero, List.set_cons_succ]
                  refine wpAnyH_take (i := 13) (v := ?_) rfl (by kernel_rfl) (by kernel_rfl) (by kernel_rfl) (fun _ _ _ h => h) (Or.inl ⟨by kernel_rfl, ?_⟩) (by assumption) ?_
                  rotate_left
                  · intro w hSw; skip; (try clear hSw); go_simp; (try with_reducible rfl)
                  try simp only [Act.put, List.getElem_toArray, List.getElem_cons_succ, List.getElem_cons_zero, List.setIfInBounds_toArray, List.set_cons_zero, List.set_cons_succ]
                  refine wpAnyH_take (i := 14) (v := ?_) rfl (by kernel_rfl) (by kernel_rfl) (by kernel_rfl) (fun _ _ _ h => h) (Or.inl ⟨by kernel_rfl, ?_⟩) (by assumption) ?_
                  rotate_left
                  · intro w hSw; skip; (try clear hSw); go_simp; (try with_reducible rfl)
                  try simp only [Act.put, List.getElem_toArray, List.getElem_cons_succ, List.getElem_cons_zero, List.setIfInBounds_toArray, List.set_cons_zero, List.set_cons_succ]
                  refine wpAnyH_ready (rs := [15]) (by kernel_rfl) (by simp) ?_
                  refine AllReadyH.cons rfl (fun K hK => ?_) AllReadyH.nil
                  go_simp
                  refine hK.out _ _ (P6b) (fun hHeld => ?_)
                  clear hK K
                  try simp only [Act.put, List.getElem_toArray, List.getElem_cons_succ, List.getElem_cons_zero, List.setIfInBounds_toArray, List.set_cons_zero, List.set_cons_succ]
                  refine wpAnyH_done (by kernel_rfl) ?_ _
                  go_wp2_with fail
                  go_roundw
                  case rel => exact ⟨i2 + 1, _, by omega, by simp, by show MakV _ _ _ _ _ _ _ _ _; rw [unhideR NXT]; exact unhideR HM6, HF6, s6⟩
                  case measure => simp [intOf]; omega
                · go_simp
                  refine hK.out _ _ (old_at P3 _) (fun hHeld => ?_)
                  clear hK K
                  try simp only [Act.put, List.getElem_toArray, List.getElem_cons_succ, List.getElem_cons_zero, List.setIfInBounds_toArray, List.set_cons_zero, List.set_cons_succ]
                  refine wpAnyH_ready (rs := [4]) (by kernel_rfl) (by simp) ?_
                  refine AllReadyH.cons rfl (fun K hK => ?_) AllReadyH.nil
                  go_simp
                  refine hK.out _ _ (old_at P3 _) (fun hHeld => ?_)
                  clear hK K
                  try simp only [Act.put, List.getElem_toArray, List.getElem_cons_succ, List.getElem_cons_zero, List.setIfInBounds_toArray, List.set_cons_zero, List.set_cons_succ]
                  refine wpAnyH_ready (rs := [12]) (by kernel_rfl) (by simp) ?_
                  refine AllReadyH.cons rfl (fun K hK => ?_) AllReadyH.nil
                  refine step_append_lies _ rfl _ _ 30 rfl B 39 ti _ 3 56 Tryz.underlying30 hi0 hz0 hz1 hz2 rfl (by omega) _ _ _ rfl (HO.alloc _) ⟨w3.heap.size, 0, none⟩ 1 1 [.slice none 0 0, .int .i64 mk1, .slice ac nN cc] rfl rfl (new_prod _ _ _ _ _ rfl) (by simp [Value.oneCell'])  (by omega) (by unfold maxLen; omega) (by omega) (by simp; omega) (w3.heap.size + 1) (by simp) ?_
                  intro gg cap1 w6 hown1 hgrow hat hlt1
                  have hb6 : w6.heap[b]? = some (.cells (mkCells (.slice va MD.length vc) m b 0 ⟨MD, 2147483647, 0, 0⟩) 77) := (hgrow.block b (by rw [World.size_alloc]; omega) (fun e => (unhideR HM3).made_ne b e.symm rfl)).trans (old_at (unhideR HM3).cells _)
                  obtain ⟨u0, -, -, -, -, -, z0, -, -, -, -⟩ := mcells hb6
                  have hlw6 : b < w6.heap.size := (Array.getElem?_eq_some_iff.1 hb6).1
                  have P6 : w6.heap[wr.heap.size]? = some (.cells #[.string S0, .int .i64 mk1, .int .i64 k1, .string S1, .slice a1 n1 c1, .slice a2 n2 c2, .int .i64 q, .slice aN nN cN, .int .i64 qr] 44) := (hgrow.block _ (by rw [World.size_alloc]; have := (Array.getElem?_eq_some_iff.1 P3).1; omega) (fun e => by have := HO.lt _ e.symm; obtain ⟨cz, hcz⟩ := own_blk HO _ e.symm; rw [P3] at hcz; injection hcz with hcz; injection hcz with _ hcz; exact absurd hcz (by decide))).trans (old_at P3 _)
                  have G6 := (unhideR HM3).grow (W := w3.alloc (.cells #[.slice none 0 0, .int .i64 mk1, .slice ac nN cc] 39)) (Below.new1 _) (unhideR hml59) (unhideR HPR3) (p := ([], mk1, NN)) (AltV.none _ _) (⟨ac, cc, by rw [unhideR HNN], by rw [unhideR HNN]; exact (unhideR HR3).later (Below.new1 _) (Nat.le_refl _), (rs_kr (KR.of (Below.new1 _)) (unhideR HR3) (unhideR HY3)).2⟩) hown1 hgrow (by rcases hat with h | h; exact .inl h; exact .inr (by simp [h]))
                  have HM6 := hideR G6.1
                  have HF6 := hideR ((unhideR hF2).then ((Fb.of (Nat.le_trans (unhideR HBB) hsw2) (unhideR HB3)).then (Fb.fl G6.2 hbw3 (unhideR HM3).cells)))
                  have s6 := (unhideR HF6).2.2
                  have P6b : (w6.setCell ⟨b, 0, none⟩ (.slice (some ⟨gg, 0, none⟩) (MD.length + 1) cap1)).heap[wr.heap.size]? = some (.cells #[.string S0, .int .i64 mk1, .int .i64 k1, .string S1, .slice a1 n1 c1, .slice a2 n2 c2, .int .i64 q, .slice aN nN cN, .int .i64 qr] 44) := other_at P6 (by omega) _
                  clear hb6 hown1 hgrow hat hlt1 G6 HO
                  refine hK.out _ _ (P6) (fun hHeld => ?_)
                  clear hK K
                  try simp only [Act.put, List.getElem_toArray, List.getElem_cons_succ, List.getElem_cons_zero, List.setIfInBounds_toArray, List.set_cons_zero, List.set_cons_succ]
                  refine wpAnyH_take (i := 13) (v := ?_) rfl (by kernel_rfl) (by kernel_rfl) (by kernel_rfl) (fun _ _ _ h => h) (Or.inl ⟨by kernel_rfl, ?_⟩) (by assumption) ?_
                  rotate_left
                  · intro w hSw; skip; (try clear hSw); go_simp; (try with_reducible rfl)
                  try simp only [Act.put, List.getElem_toArray, List.getElem_cons_succ, List.getElem_cons_zero, List.setIfInBounds_toArray, List.set_cons_zero, List.set_cons_succ]
                  refine wpAnyH_take (i := 14) (v := ?_) rfl (by kernel_rfl) (by kernel_rfl) (by kernel_rfl) (fun _ _ _ h => h) (Or.inl ⟨by kernel_rfl, ?_⟩) (by assumption) ?_
                  rotate_left
                  · intro w hSw; skip; (try clear hSw); go_simp; (try with_reducible rfl)
                  try simp only [Act.put, List.getElem_toArray, List.getElem_cons_succ, List.getElem_cons_zero, List.setIfInBounds_toArray, List.set_cons_zero, List.set_cons_succ]
                  refine wpAnyH_ready (rs := [15]) (by kernel_rfl) (by simp) ?_
                  refine AllReadyH.cons rfl (fun K hK => ?_) AllReadyH.nil
                  go_simp
                  refine hK.out _ _ (P6b) (fun hHeld => ?_)
                  clear hK K
                  try simp only [Act.put, List.getElem_toArray, List.getElem_cons_succ, List.getElem_cons_zero, List.setIfInBounds_toArray, List.set_cons_zero, List.set_cons_succ]
                  refine wpAnyH_done (by kernel_rfl) ?_ _
                  go_wp2_with fail
                  go_roundw
                  case rel => exact ⟨i2 + 1, _, by omega, by simp, by show MakV _ _ _ _ _ _ _ _ _; rw [unhideR NXT]; exact unhideR HM6, HF6, s6⟩
                  case measure => simp [intOf]; omega
            · obtain rfl : i2 = j := by omega
              go_wp2_with fail
              go_end0
              have e : (L.take i2).map (fun r => (([] : List (List SY)), r.2.1, r.2.2.2.1)) = L.map (fun r => (([] : List (List SY)), r.2.1, r.2.2.2.1)) := by rw [List.take_of_length_le (by rw [unhideR HLL]; exact Nat.le_refl _)]
              have hmm := unhideR hM2
              rw [e] at hmm
              exact ⟨rfl, ⟨_, _, by rw [unhideR FIN]; exact hmm, fun _ => rfl⟩, unhideR hF2⟩
end Go.Proofs.YtamefbpdnblbdaaGreatDoor.F

namespace Go.Proofs.YtamefbpdnblbdaaGreatDoor.F
open Go.RowKit Go.Proofs.YtamefbpdnblbdaaGreatDoor.T Go.Proofs.YtamefbpdnblbdaaGreatDoor.R
set_option linter.unusedVariables false
set_option linter.unusedSimpArgs false

theorem cells9p {W : World} {g : Nat} {x0 x1 x2 x3 x4 x5 x6 x7 x8 : Value} {t : TypeId} (h : W.heap[g]? = some (.cells #[x0, x1, x2, x3, x4, x5, x6, x7, x8] t)) : W.cell? ⟨g, 2, none⟩ = some x2 ∧ W.cell? ⟨g, 3, none⟩ = some x3 ∧ W.cell? ⟨g, 4, none⟩ = some x4 ∧ W.cell? ⟨g, 5, none⟩ = some x5 ∧ W.cell? ⟨g, 6, none⟩ = some x6 := by
  refine ⟨?_, ?_, ?_, ?_, ?_⟩ <;> simp [World.cell?, h]
theorem rules_on {ns : List (List Int)} {n : Nat} {u : RU} {l : List RU} {i : Nat} {m : Mk} (h : m.why = 0) : rulesM ns n (u :: l) i m = rulesM ns n l (i + 1) ((ruleA ns n u.2.2.1 m).1.fin i (atP u.2.2.1) (ruleA ns n u.2.2.1 m).2) := by
  conv => lhs; unfold rulesM
  rw [if_neg (fun c => c h)]
theorem ruleA_mono (ns : List (List Int)) (n : Nat) (p : PT) (m : Mk) : m.made.length ≤ (ruleA ns n p m).1.made.length := by
  unfold ruleA
  split
  · exact (each_mono (part_mono ns n 0) _ _ _).1
  · exact (part_mono ns n 0 m [] p).1
theorem beg_made (L : List RU) (h : (begM L).why = 0) : (begM L).made.length = L.length := by
  unfold begM at h ⊢
  cases e : twice L [] with
  | some q => rw [e] at h; cases h
  | none =>
    rw [e] at h
    simp only at h ⊢
    split
    · rename_i c; rw [if_pos c] at h; cases h
    · simp
set_option maxRecDepth 20000 in
set_option maxHeartbeats 8000000 in
theorem frules_l {n : Nat} {D : Nat → Prop} {w : World} {B b m : Nat} {v : Value} (a : Option Addr) (len cap : Nat) (L : List RU) (hB : B ≤ w.heap.size) (hD : ∀ k, w.heap.size ≤ k → D k) (hm : MakV D w B b m [] 0 v ⟨[], 2147483647, 0, 0⟩) (hr : RsV B n w a len cap L) (hN : ∀ u ∈ L, u.2.2.2.1.length ≤ 1000000) (hS : ∀ u ∈ L, smP n u.2.2.1) :
    Calls Tryz.prog 29 #[.pointer (some ⟨b, 0, none⟩), .slice a len cap] w fun e w' => e = .returned (.tuple #[]) ∧ (∃ v' ns', MakV D w' B b m ns' 0 v' (flatM n L)) ∧ Fb B w w' := by
  obtain ⟨hc1, hc2⟩ := hr.hcap
  unfold maxLen at hc2
  have hsm := hr.hsmall
  have HLL := hideR hr.hlen
  have HSS := hideR hS
  have HR0 := hideR hr
  have HBB := hideR hB
  have HDD := hideR hD
  have hlt := hm.lt
  have CB := hideR (fbegin_l a len cap L hB hm hr hN)
  clear hm hr hN hS hD
  go_enter Tryz.func29, Tryz.ntmps29
  go_wp2_with fail
  refine (unhideR CB).mono ?_
  clear CB
  rintro e w1 ⟨rfl, ⟨v1, ns1, mk1, hns⟩, f1⟩
  have M1 : Hid (∃ v' ns', MakV D w1 B b m ns' 0 v' (begM L) ∧ ((begM L).why = 0 → ns' = L.map (·.1) ∧ len ≤ (begM L).made.length)) := ⟨v1, ns1, mk1, fun c => ⟨hns c, by rw [beg_made L c, unhideR HLL]; exact Nat.le_refl _⟩⟩
  have F1 := hideR f1
  have s1 := f1.2.2
  clear mk1 hns f1
  go_wp2_with fail
  go_loopw [11] (fun i wr => ∃ (j : Nat) (s' : Mk), j ≤ len ∧ i = .int .i64 (j : Int) ∧ Hid (flatM n L = rulesM (L.map (·.1)) n (L.drop j) j s') ∧ Hid (∃ v' ns', MakV D wr B b m ns' 0 v' s' ∧ (s'.why = 0 → ns' = L.map (·.1) ∧ len ≤ s'.made.length)) ∧ Hid (Fb B w wr) ∧ w.heap.size ≤ wr.heap.size) (fun i _ => len - (intOf i).toNat)
  case atStart => exact ⟨0, begM L, Nat.zero_le _, rfl, rfl, M1, F1, s1⟩
  case round =>
    obtain ⟨j, s', hj, rfl, hT, hM, hF, hsw⟩ := hrel
    obtain ⟨v', ns', hmk, hns⟩ := unhideR hM
    have c14 := (mcells hmk.cells).2.2.2.2.2.1
    have hb1 := hmk.lt
    have HMK := hideR hmk
    have HNS := hideR hns
    clear hmk hns hM
    by_cases hlt2 : j < len
    · obtain ⟨g, off, k1, S1, a1, n1, c1, a2, n2, c2, aN, cN, u, rfl, hg, q0, q1, q2, q3, q4, q5, q6, q7, q8, pv1, hx, hrs, hty, hd, hu⟩ := rules_one ((unhideR hF).rules (unhideR HR0)) j hlt2
      have HD1 := hideR hd
      have HPV := hideR pv1
      have HSP := hideR (unhideR HSS u hu)
      have n9 : j * 9 = 9 * j := by omega
      clear pv1 hrs hty hd hu hx
      by_cases hw0 : s'.why = 0
      · have hbb : (s'.why != 0) = false := by rw [hw0]; rfl
        obtain ⟨hns, hml⟩ := unhideR HNS hw0
        subst hns
        have NXT : Hid (flatM n L = rulesM (L.map (·.1)) n (L.drop (j + 1)) (j + 1) ((ruleA (L.map (·.1)) n u.2.2.1 s').1.fin j (atP u.2.2.1) (ruleA (L.map (·.1)) n u.2.2.1 s').2)) := by show _ = _; rw [unhideR hT, unhideR HD1, rules_on hw0]
        have hmr : len ≤ (ruleA (L.map (·.1)) n u.2.2.1 s').1.made.length := Nat.le_trans hml (ruleA_mono _ _ _ _)
        have hBr : B ≤ wr.heap.size := Nat.le_trans (unhideR HBB) hsw
        have CR := hideR (fun W (bW : Below wr.heap.size wr W) => frule_l (D := D) (w := W) (ns := L.map (·.1)) (n := n) _ u.2.2.1 (Nat.le_trans hBr bW.size) (fun k hk => unhideR HDD k (Nat.le_trans hsw (Nat.le_trans bW.size hk))) ⟨_, (unhideR HMK).later bW⟩ (PartB.kept (fun g hg => ⟨hg, bW.block g (Nat.lt_of_lt_of_le hg hBr)⟩) (KR.of bW) n _ u.2.2.1 (unhideR HPV)) (unhideR HSP))
        generalize hAR : ruleA (L.map (·.1)) n u.2.2.1 s' = r at *
        clear hAR
        generalize strOfNums u.1 = S0 at *
        generalize u.2.1 = mk1 at *
        generalize atP u.2.2.1 = q at *
        generalize u.2.2.2.2 = qr at *
        generalize u.2.2.2.1.length = nN at *
        clear hw0 hml HPV HSP
        go_wp2_with fail
        have BW := Below.new1 (w := wr) (.cells #[.string S0, .int .i64 mk1, .int .i64 k1, .string S1, .slice a1 n1 c1, .slice a2 n2 c2, .int .i64 q, .slice aN nN cN, .int .i64 qr] 44)
        have P0 : (wr.alloc (.cells #[.string S0, .int .i64 mk1, .int .i64 k1, .string S1, .slice a1 n1 c1, .slice a2 n2 c2, .int .i64 q, .slice aN nN cN, .int .i64 qr] 44)).heap[wr.heap.size]? = some (.cells #[.string S0, .int .i64 mk1, .int .i64 k1, .string S1, .slice a1 n1 c1, .slice a2 n2 c2, .int .i64 q, .slice aN nN cN, .int .i64 qr] 44) := heap_alloc_new wr _
        generalize wr.alloc (.cells #[.string S0, .int .i64 mk1, .int .i64 k1, .string S1, .slice a1 n1 c1, .slice a2 n2 c2, .int .i64 q, .slice aN nN cN, .int .i64 qr] 44) = WW at *
        have BD : Below wr.heap.size wr WW.drew := bthen BW (draws_b (k := 1))
        clear q0 q1 q2 q3 q4 q5 q6 q7 q8
        refine wp_region_held_drew (S := (fun w' => w'.heap[wr.heap.size]? = some (.cells #[.string S0, .int .i64 mk1, .int .i64 k1, .string S1, .slice a1 n1 c1, .slice a2 n2 c2, .int .i64 q, .slice aN nN cN, .int .i64 qr] 44))) (by kernel_rfl) (P0) (fun hHeld => ?_)
        refine wpAnyH_take (i := 0) (v := ?_) rfl (by kernel_rfl) (by kernel_rfl) (by kernel_rfl) (fun _ _ _ h => h) (Or.inl ⟨by kernel_rfl, ?_⟩) (by assumption) ?_
        rotate_left
        · intro w hSw; obtain ⟨y2, y3, y4, y5, y6⟩ := cells9p hSw; (try clear hSw); go_simp; (try with_reducible rfl)
        try simp only [Act.put, List.getElem_toArray, List.getElem_cons_succ, List.getElem_cons_zero, List.setIfInBounds_toArray, List.set_cons_zero, List.set_cons_succ]
        refine wpAnyH_take (i := 1) (v := ?_) rfl (by kernel_rfl) (by kernel_rfl) (by kernel_rfl) (fun _ _ _ h => h) (Or.inl ⟨by kernel_rfl, ?_⟩) (by assumption) ?_
        rotate_left
        · intro w hSw; obtain ⟨y2, y3, y4, y5, y6⟩ := cells9p hSw; (try clear hSw); go_simp; (try with_reducible rfl)
        try simp only [Act.put, List.getElem_toArray, List.getElem_cons_succ, List.getElem_cons_zero, List.setIfInBounds_toArray, List.set_cons_zero, List.set_cons_succ]
        refine wpAnyH_take (i := 2) (v := ?_) rfl (by kernel_rfl) (by kernel_rfl) (by kernel_rfl) (fun _ _ _ h => h) (Or.inl ⟨by kernel_rfl, ?_⟩) (by assumption) ?_
        rotate_left
        · intro w hSw; obtain ⟨y2, y3, y4, y5, y6⟩ := cells9p hSw; (try clear hSw); go_simp; (try with_reducible rfl)
        try simp only [Act.put, List.getElem_toArray, List.getElem_cons_succ, List.getElem_cons_zero, List.setIfInBounds_toArray, List.set_cons_zero, List.set_cons_succ]
        refine wpAnyH_take (i := 3) (v := ?_) rfl (by kernel_rfl) (by kernel_rfl) (by kernel_rfl) (fun _ _ _ h => h) (Or.inl ⟨by kernel_rfl, ?_⟩) (by assumption) ?_
        rotate_left
        · intro w hSw; obtain ⟨y2, y3, y4, y5, y6⟩ := cells9p hSw; (try clear hSw); go_simp; (try with_reducible rfl)
        try simp only [Act.put, List.getElem_toArray, List.getElem_cons_succ, List.getElem_cons_zero, List.setIfInBounds_toArray, List.set_cons_zero, List.set_cons_succ]
        refine wpAnyH_take (i := 4) (v := ?_) rfl (by kernel_rfl) (by kernel_rfl) (by kernel_rfl) (fun _ _ _ h => h) (Or.inl ⟨by kernel_rfl, ?_⟩) (by assumption) ?_
        rotate_left
        · intro w hSw; obtain ⟨y2, y3, y4, y5, y6⟩ := cells9p hSw; (try clear hSw); go_simp; (try with_reducible rfl)
        try simp only [Act.put, List.getElem_toArray, List.getElem_cons_succ, List.getElem_cons_zero, List.setIfInBounds_toArray, List.set_cons_zero, List.set_cons_succ]
        refine wpAnyH_take (i := 5) (v := ?_) rfl (by kernel_rfl) (by kernel_rfl) (by kernel_rfl) (fun _ _ _ h => h) (Or.inl ⟨by kernel_rfl, ?_⟩) (by assumption) ?_
        rotate_left
        · intro w hSw; obtain ⟨y2, y3, y4, y5, y6⟩ := cells9p hSw; (try clear hSw); go_simp; (try with_reducible rfl)
        try simp only [Act.put, List.getElem_toArray, List.getElem_cons_succ, List.getElem_cons_zero, List.setIfInBounds_toArray, List.set_cons_zero, List.set_cons_succ]
        refine wpAnyH_take (i := 6) (v := ?_) rfl (by kernel_rfl) (by kernel_rfl) (by kernel_rfl) (fun _ _ _ h => h) (Or.inl ⟨by kernel_rfl, ?_⟩) (by assumption) ?_
        rotate_left
        · intro w hSw; obtain ⟨y2, y3, y4, y5, y6⟩ := cells9p hSw; (try clear hSw); go_simp; (try with_reducible rfl)
        try simp only [Act.put, List.getElem_toArray, List.getElem_cons_succ, List.getElem_cons_zero, List.setIfInBounds_toArray, List.set_cons_zero, List.set_cons_succ]
        refine wpAnyH_ready (rs := [7]) (by kernel_rfl) (by simp) ?_
        refine AllReadyH.cons rfl (fun K hK => ?_) AllReadyH.nil
        go_simp
        refine (unhideR CR _ BD).mono ?_
        clear CR
        rintro e w3 ⟨av, rfl, alt3, ⟨mv3, mk3⟩, fl3, l9⟩
        have P3 : w3.heap[wr.heap.size]? = some (.cells #[.string S0, .int .i64 mk1, .int .i64 k1, .string S1, .slice a1 n1 c1, .slice a2 n2 c2, .int .i64 q, .slice aN nN cN, .int .i64 qr] 44) := fl3.block _ _ (show WW.drew.heap[wr.heap.size]? = _ from P0) (by omega) (by simp) (fun cs fr e => by injection e with _ e; exact absurd e (by decide))
        have CF := hideR (ffin_l mk3 j (Nat.lt_of_lt_of_le hlt2 hmr) k1 S1 a1 n1 c1 a2 n2 c2 q av r.2 alt3 (Nat.le_trans l9 (by omega)))
        have HF3 := hideR ((unhideR hF).then ((Fb.of hBr BD).then (Fb.fl fl3 (Nat.le_trans hBr BD.size) ((unhideR HMK).later BD).cells)))
        obtain ⟨va1, va2, rfl, -, -⟩ := alt3.form
        have h3 := mk3.lt
        have s3 := (unhideR HF3).2.2
        have HM3 := hideR mk3
        clear alt3 mk3 fl3 l9
        go_wp2_with fail
        refine hK.out _ _ (P3) (fun hHeld => ?_)
        clear hK K
        try simp only [Act.put, List.getElem_toArray, List.getElem_cons_succ, List.getElem_cons_zero, List.setIfInBounds_toArray, List.set_cons_zero, List.set_cons_succ]
        refine wpAnyH_ready (rs := [8]) (by kernel_rfl) (by simp) ?_
        refine AllReadyH.cons rfl (fun K hK => ?_) AllReadyH.nil
        go_simp
        refine (unhideR CF).mono ?_
        clear CF
        rintro e w4 ⟨rfl, mk4, fl4⟩
        have P4 : w4.heap[wr.heap.size]? = some (.cells #[.string S0, .int .i64 mk1, .int .i64 k1, .string S1, .slice a1 n1 c1, .slice a2 n2 c2, .int .i64 q, .slice aN nN cN, .int .i64 qr] 44) := fl4.block _ _ P3 (by omega) (by simp) (fun cs fr e => by injection e with _ e; exact absurd e (by decide))
        have HF4 := hideR ((unhideR HF3).then (Fb.fl fl4 (Nat.le_trans (unhideR HBB) s3) (unhideR HM3).cells))
        have s4 := (unhideR HF4).2.2
        have M4 : Hid (∃ v' ns', MakV D w4 B b m ns' 0 v' (r.1.fin j q r.2) ∧ ((r.1.fin j q r.2).why = 0 → ns' = L.map (·.1) ∧ len ≤ (r.1.fin j q r.2).made.length)) := ⟨_, _, mk4, fun _ => ⟨rfl, by rw [fin_len]; exact hmr⟩⟩
        clear mk4 fl4
        go_wp2_with fail
        refine hK.out _ _ (P4) (fun hHeld => ?_)
        clear hK K
        try simp only [Act.put, List.getElem_toArray, List.getElem_cons_succ, List.getElem_cons_zero, List.setIfInBounds_toArray, List.set_cons_zero, List.set_cons_succ]
        refine wpAnyH_done (by kernel_rfl) ?_ _
        clear P0 P3 P4 hHeld
        go_wp2_with fail
        go_roundw
        case rel => exact ⟨j + 1, _, by omega, by simp, NXT, M4, HF4, s4⟩
        case measure => simp [intOf]; omega
      · have hbb : (s'.why != 0) = true := by rw [bne_iff_ne]; exact hw0
        have FIN : Hid (flatM n L = s') := by show _ = _; rw [unhideR hT]; exact rulesM_bad _ _ _ _ _ hw0
        generalize strOfNums u.1 = S0 at *
        generalize u.2.1 = mk1 at *
        generalize atP u.2.2.1 = q at *
        generalize u.2.2.2.2 = qr at *
        generalize u.2.2.2.1.length = nN at *
        clear hw0
        go_wp2_with fail
        (try simp only [Exit.inBlock, Exit.then])
        refine bodyPost_ret (results_none rfl _ _ _) rfl ?_
        rw [unhideR FIN]
        have BW := Below.new1 (w := wr) (.cells #[.string S0, .int .i64 mk1, .int .i64 k1, .string S1, .slice a1 n1 c1, .slice a2 n2 c2, .int .i64 q, .slice aN nN cN, .int .i64 qr] 44)
        exact ⟨rfl, ⟨_, _, (unhideR HMK).later BW⟩, (unhideR hF).then (Fb.of (Nat.le_trans (unhideR HBB) hsw) BW)⟩
    · obtain rfl : j = len := by omega
      have FIN : Hid (flatM n L = s') := by show _ = _; rw [unhideR hT, List.drop_eq_nil_of_le (by rw [unhideR HLL]; exact Nat.le_refl _)]; rfl
      go_wp2_with fail
      go_end0
      rw [unhideR FIN]
      exact ⟨rfl, ⟨_, _, unhideR HMK⟩, unhideR hF⟩
end Go.Proofs.YtamefbpdnblbdaaGreatDoor.F

namespace Go.Proofs.YtamefbpdnblbdaaGreatDoor.R
open Go.RowKit Go.Proofs.YtamefbpdnblbdaaGreatDoor.T
set_option linter.unusedVariables false
set_option linter.unusedSimpArgs false

theorem ready_unlisted {md : Region.Mode} {ops : Array Oper} {listed : Array Bool} {i : Nat} (h : i ∈ Region.ready md ops listed) : listed[i]? = some false := by
  unfold Region.ready at h
  have h2 := (List.mem_filter.1 h).2
  simp only [Bool.and_eq_true, Bool.not_eq_true'] at h2
  have h3 := h2.1
  rw [Array.getD_eq_getD_getElem?] at h3
  cases e : listed[i]? with
  | none => rw [e] at h3; cases h3
  | some b => rw [e] at h3; simp at h3; rw [h3]
theorem count_drops {l : Array Bool} {i : Nat} (h : l[i]? = some false) : (l.setIfInBounds i true).toList.count false < l.toList.count false := by
  have hi : i < l.toList.length := by have := (Array.getElem?_eq_some_iff.1 h).1; simpa using this
  have hv : l.toList[i] = false := by have := (Array.getElem?_eq_some_iff.1 h).2; simpa using this
  have hm : 0 < l.toList.count false := List.count_pos_iff.2 (by rw [← hv]; exact List.getElem_mem hi)
  rw [Array.toList_setIfInBounds, List.count_set hi]
  have e1 : ((false : Bool) == false) = true := rfl
  have e2 : ((true : Bool) == false) = false := rfl
  rw [hv, e1, e2]
  simp only [if_true, Bool.false_eq_true, if_false]
  omega
theorem all_listed {md : Region.Mode} {ops : Array Oper} {listed : Array Bool} (h : listed.toList.count false = 0) : Region.ready md ops listed = [] := by
  cases e : Region.ready md ops listed with
  | nil => rfl
  | cons i rest =>
    have h1 := ready_unlisted (md := md) (ops := ops) (listed := listed) (i := i) (by rw [e]; exact List.mem_cons_self ..)
    have := count_drops h1
    omega
theorem wpAny_inv {P : Program} {md : Region.Mode} {ops : Array Oper} {Q : Exit → Act → World → Prop} (I : Array Bool → Act → World → Prop)
    (step : ∀ listed a w i, I listed a w → i ∈ Region.ready md ops listed → wpOp P ops Q i (fun a' w' => I (listed.setIfInBounds i true) a' w') a w)
    (fin : ∀ listed a w, I listed a w → Region.ready md ops listed = [] → Q .normal a w) :
    ∀ fuel listed a w, listed.toList.count false ≤ fuel → I listed a w → wpAny P md ops Q fuel listed a w := by
  intro fuel
  induction fuel with
  | zero =>
    intro listed a w hc h
    have := all_listed (md := md) (ops := ops) (listed := listed) (by omega)
    exact ⟨this, fin listed a w h this⟩
  | succ fuel ih =>
    intro listed a w hc h
    refine ⟨fun hr => fin listed a w h hr, fun i hi => wpOp_mono (fun a' w' h' => ih _ _ _ ?_ h') (step listed a w i h hi)⟩
    have := count_drops (ready_unlisted hi)
    omega
/-! ### A map of looks that grows -/
def Mf (w : World) (m : Nat) (f : Int → List Int → Option Nat) : Prop := ∃ es clock l, w.heap[m]? = some (.map es clock) ∧ EsC es.toList l ∧ ∀ k x, (fnd k x l 0).map Prod.snd = f k x
theorem Mf.later {w w' : World} {m : Nat} {f : Int → List Int → Option Nat} (h : Mf w m f) (b : Below w.heap.size w w') : Mf w' m f := by
  obtain ⟨es, clock, l, h1, h2, h3⟩ := h
  exact ⟨es, clock, l, (b.block m (Array.getElem?_eq_some_iff.1 h1).1).trans h1, h2, h3⟩
theorem Mf.lt {w : World} {m : Nat} {f : Int → List Int → Option Nat} (h : Mf w m f) : m < w.heap.size := by
  obtain ⟨es, clock, l, h1, h2, h3⟩ := h
  exact (Array.getElem?_eq_some_iff.1 h1).1
theorem fnd_app (k : Int) (x : List Int) (k2 : Int) (x2 : List Int) (g : Nat) : ∀ (l : List (Int × List Int × Nat)) (n : Nat), (fnd k x (l ++ [(k2, x2, g)]) n).map Prod.snd = match (fnd k x l n).map Prod.snd with
    | some f => some f
    | none => if (k, x) = (k2, x2) then some g else none := by
  intro l
  induction l with
  | nil => intro n; simp only [List.nil_append, fnd]; split <;> rfl
  | cons e l ih =>
    intro n
    obtain ⟨k3, x3, f3⟩ := e
    simp only [List.cons_append, fnd]
    by_cases c : (k, x) = (k3, x3)
    · rw [if_pos c, if_pos c]; rfl
    · rw [if_neg c, if_neg c]; exact ih (n + 1)
theorem EsC.snoc {e : MapEntry} {k : Int} {x : List Int} {g : Nat} (hx : U.isBytes x) (hk : e.key = lookV k x) (hv : e.val = .func (.func g) #[] #[]) : ∀ (es : List MapEntry) (l : List (Int × List Int × Nat)), EsC es l → EsC (es ++ [e]) (l ++ [(k, x, g)]) := by
  intro es
  induction es with
  | nil =>
    intro l h
    have : l = [] := h
    subst this
    exact ⟨k, x, g, [], rfl, hx, hk, hv, rfl⟩
  | cons e' es ih =>
    intro l h
    obtain ⟨k', x', f', l', rfl, h1, h2, h3, h4⟩ := h
    exact ⟨k', x', f', l' ++ [(k, x, g)], rfl, h1, h2, h3, ih l' h4⟩
theorem Mf.put {w : World} {m : Nat} {f f' : Int → List Int → Option Nat} (h : Mf w m f) (k : Int) (x : List Int) (hx : U.isBytes x) (g : Nat) (hn : f k x = none) (hf' : ∀ k2 x2, f' k2 x2 = if (k2, x2) = (k, x) then some g else f k2 x2) :
    ∃ w', (Instr.mapUpdate 105 (.map (some m)) (.agg #[.int .i64 k, .string (strOfNums x)]) (.func (.func g) #[] #[])).run Tryz.prog w = .ok () w' ∧ Mf w' m f' ∧ w'.heap.size = w.heap.size ∧ (∀ j, j ≠ m → w'.heap[j]? = w.heap[j]?) ∧ w'.os = w.os ∧ w'.tape = w.tape ∧ w'.output = w.output := by
  obtain ⟨es, clock, l, h1, h2, h3⟩ := h
  have hlt := (Array.getElem?_eq_some_iff.1 h1).1
  have e0 : fnd k x l 0 = none := by
    have := h3 k x
    rw [hn] at this
    cases e : fnd k x l 0 with
    | none => rfl
    | some p => rw [e] at this; cases this
  have hg : (getObj m).run Tryz.prog w = .ok (.map es clock) w := by simp [getObj, h1, Sem.run]
  have hfd := found k x hx w es.toList l h2
  unfold lookV at hfd
  rw [e0] at hfd
  refine ⟨{ w with heap := w.heap.setIfInBounds m (.map (es.push { key := .agg #[.int .i64 k, .string (strOfNums x)], val := .func (.func g) #[] #[], born := clock }) (clock + 1)) }, ?_, ?_, by simp, fun j hj => by simp [Array.getElem?_setIfInBounds, Ne.symm hj], rfl, rfl, rfl⟩
  · have hs : ∀ o, (setObj m o).run Tryz.prog w = .ok () { w with heap := w.heap.setIfInBounds m o } := fun o => by simp [setObj, Sem.run, h1]
    simp [Instr.mapUpdate, run_underlying Tryz.underlying105, hg, ck_look, hfd, hs]
  · refine ⟨es.push { key := .agg #[.int .i64 k, .string (strOfNums x)], val := .func (.func g) #[] #[], born := clock }, clock + 1, l ++ [(k, x, g)], by simp [Array.getElem?_setIfInBounds, hlt], ?_, fun k2 x2 => ?_⟩
    · rw [Array.toList_push]
      exact EsC.snoc hx rfl rfl _ _ h2
    · rw [fnd_app, h3 k2 x2, hf' k2 x2]
      by_cases c : (k2, x2) = (k, x)
      · have ek : k2 = k := by injection c
        have ex : x2 = x := by injection c
        rw [if_pos c, ek, ex, hn, if_pos rfl]
      · rw [if_neg c, if_neg c]
        cases f k2 x2 <;> rfl
end Go.Proofs.YtamefbpdnblbdaaGreatDoor.R

