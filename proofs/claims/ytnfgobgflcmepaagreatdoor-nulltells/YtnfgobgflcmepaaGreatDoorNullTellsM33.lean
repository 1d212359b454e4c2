/- Parts of the proof of NullTells that stand ahead of it (33: RdAlt, RdGrp, RdMarks, RdKeys, RdRule, RdRules, RdFile, FlRule). -/
import Derived.Test.YtnfgobgflcmepaaGreatDoorNullTellsM32
set_option linter.unusedVariables false
set_option linter.unusedSimpArgs false
set_option maxRecDepth 20000
set_option maxHeartbeats 16000000
namespace Go.Proofs.YtnfgobgflcmepaaGreatDoor.R
open Go.RowKit Go.Proofs.YtnfgobgflcmepaaGreatDoor.T
theorem altF_stop {grp : List TN → Res PT} {f : Nat} {p0 : PT} {acc : List PT} {r : List TN} (h : isS r 124 = false) : altF grp (f + 1) p0 acc r = .inr (R.ZV 5 acc (atP p0), r) := by
 unfold altF; rw [h]; rfl
theorem altF_bad {grp : List TN → Res PT} {f : Nat} {p0 : PT} {acc : List PT} {r : List TN} {e : Nat × Int} (h : isS r 124 = true) (hs : seqL grp r.tail = .inl e) : altF grp (f + 1) p0 acc r = .inl e := by
 unfold altF; rw [if_pos h, hs]
theorem altF_more {grp : List TN → Res PT} {f : Nat} {p0 p : PT} {acc : List PT} {r r1 : List TN} (h : isS r 124 = true) (hs : seqL grp r.tail = .inr (p, r1)) : altF grp (f + 1) p0 acc r = altF grp f p0 (acc ++ [p]) r1 := by
 conv => lhs; unfold altF
 rw [if_pos h, hs]
theorem RowI.first {b G m : Nat} {d : Int} {w w1 : World} {r1 : List TN} {p : PT} {x0 x1 x2 x3 x4 : Value} (hb : b < w.heap.size) (he : Ends r1) (rd : Rd w1 b G r1 m d) (mq : Mq w1 m) (bu : Bu b (w.alloc (.cells #[.int .i64 0, .string ⟨#[]⟩, .slice none 0 0, .slice none 0 0, .int .i64 0] 40)) w1) (hp : PartE (New (w.alloc (.cells #[.int .i64 0, .string ⟨#[]⟩, .slice none 0 0, .slice none 0 0, .int .i64 0] 40)) w1) w1 (.agg #[x0, x1, x2, x3, x4]) p) :
  RowI b G m d w [p] r1 (.slice (some ⟨w1.heap.size, 0, none⟩) 1 1) [x0, x1, x2, x3, x4] (w1.alloc (.cells #[x0, x1, x2, x3, x4] 40)) := by
 have s1 := bu.size
 rw [World.size_alloc] at s1
 have BN := Below.new1 (w := w1) (.cells #[x0, x1, x2, x3, x4] 40)
 refine ⟨he, rd.later BN, mq.later BN, ⟨rfl, .inr ⟨w1.heap.size, 1, #[x0, x1, x2, x3, x4], rfl, by omega, heap_alloc_new _ _, Nat.le_refl _, by unfold maxLen; omega, rfl, rfl⟩⟩, ⟨x0, x1, x2, x3, x4, [], rfl, ?_, rfl⟩, ((Bu.of (Below.new1 _)).then bu).alloc _, zK (bu.at (heap_alloc_new w _) (by omega)) _⟩
 refine hp.kept (fun g hg => ⟨⟨?_, ?_, ?_⟩, BN.block g hg.2⟩) (KR.of BN)
 ·have := hg.1; rw [World.size_alloc] at this; omega
 ·have := hg.2; rw [World.size_alloc]; omega
 ·intro e
  simp only [Value.ownBlock, Option.some.injEq] at e
  have := hg.2
  omega
theorem RowI.head {b G m : Nat} {d : Int} {w wr : World} {p0 : PT} {acc : List PT} {rr : List TN} {a : Option Addr} {n c : Nat} {cs : List Value} (h : RowI b G m d w (p0 :: acc) rr (.slice a n c) cs wr) :
  ∃ g, a = some ⟨g, 0, none⟩ ∧ n = acc.length + 1 ∧ n ≤ c ∧ c ≤ maxLen ∧ wr.cell? ⟨g, 4, none⟩ = some (.int .i64 (atP p0)) := by
 obtain ⟨c0, c1, c2, c3, c4, cs', rfl, hv, -⟩ := h.pts
 obtain ⟨y1, y2, y3, y4, y5, y6, y7, y8, y9, ev, eq⟩ := hv.form
 simp only [Value.agg.injEq, Array.mk.injEq, List.cons.injEq, and_true] at ev
 obtain ⟨-, -, -, -, rfl⟩ := ev
 rcases h.own.2 with ⟨e, h0⟩ | ⟨g, cap, cur, e, hb, hg, hn, hm, hs, ht⟩
 ·simp at h0
 ·injection e with e1 e2 e3
  subst e1; subst e3
  refine ⟨g, rfl, by rw [e2]; rfl, by omega, hm, ?_⟩
  have : (c0 :: c1 :: c2 :: c3 :: Value.int .i64 y9 :: cs')[4]? = some (Value.int .i64 y9) := rfl
  rw [← ht, List.getElem?_take_of_lt (by simp only [List.length_cons]; omega)] at this
  rw [← eq]
  simp only [World.cell?, hg]
  simpa using this
theorem alt_of {dd : Nat} (HSQ : SeqC dd) : AltC dd := by
 intro w b G r m h hr hl hm
 have hbl := h.lt
 have hGl := h.ltG
 have HB : ∀ o, Below w.heap.size w (w.alloc o) := fun o => Below.new1 o
 have CQ0 := zx (fun W (bW : Below w.heap.size w W) => HSQ W b G r m (h.later bW) hr hl (hm.later bW))
 have HSQ' := zx HSQ
 have HST := zx (And.intro h (And.intro hr hm))
 clear h hr hm HSQ
 generalize hd0 : dp dd = d0 at *
 have HD0 := zx hd0
 clear hd0
 go_enter Tryz.func123, Tryz.ntmps123
 go_wp2_with fail
 refine (zy CQ0 _ (HB _)).mono ?_
 clear CQ0
 rintro e w1 (⟨v1, p1, r1, eg, rfl, pe1, E1, hl1, rd1, bu1⟩ | ⟨q1, y1, eg, rfl, bu1⟩)
 case inr =>
  have FIN : Hid (altL (jw dd) r = .inl (q1, y1)) := by show _ = _; unfold altL; rw [eg]
  clear eg
  unfold xj
  go_wp2_with fail
  exact ⟨rfl, .inr ⟨q1, y1, zy FIN, rfl, (Bu.of (HB _)).then bu1⟩⟩
 have ST : Hid (altL (jw dd) r = altF (jw dd) r.length p1 [p1] r1) := by show _ = _; unfold altL; rw [eg]
 have MQ1 : Mq w1 m := ((zy HST).2.2.later (HB _)).bu bu1 (((HB _).block b hbl).trans (zy HST).1.cells.choose_spec.1)
 obtain ⟨x1, x2, x3, x4, x5, x6, x7, x8, x9, rfl, -⟩ := pe1.form
 have RI := zx (RowI.first hbl E1 rd1 MQ1 bu1 pe1)
 clear eg pe1 rd1 E1 MQ1 bu1 HST
 go_wp2_with fail
 go_loopw [3] (fun v wr => Hid (∃ (acc : List PT) (p0 : PT) (rr : List TN) (f : Nat) (cs : List Value), altL (jw dd) r = altF (jw dd) f p0 (p0 :: acc) rr ∧ rr.length ≤ f ∧ acc.length + rr.length ≤ r.length ∧ RowI b G m d0 w (p0 :: acc) rr v cs wr)) (fun _ wr => leftN b wr)
 case atStart => exact ⟨[], p1, r1, r.length, _, zy ST, hl1, by simp; exact hl1, zy RI⟩
 case round =>
  obtain ⟨acc, p0, rr, f, cs, hS, hff, hal, hI⟩ := zy hrel
  have HS := zx hS
  have HI := zx hI
  obtain ⟨q5, c5, rfl⟩ := xo hI.own
  have hE := hI.he
  have hpos : 1 ≤ rr.length := by cases hq : rr with | nil => exact absurd hq hE.ne | cons x y => simp
  obtain ⟨f', rfl⟩ : ∃ f', f = f' + 1 := ⟨f - 1, by omega⟩
  have CG := zx (fun W => ZW ⟨#[124]⟩ W)
  have CS := zx (fun W (bW : Below wr.heap.size wr W) => sees_l W b G rr m d0 (hI.rd.later bW) hE 4 [124] (yW (by omega) (by omega) (fun z hz => by cases hz)))
  rw [XV] at CS
  have e124 : strOfNums [124] = ⟨#[124]⟩ := rfl
  rw [e124] at CS
  clear hrel hS ST RI e124
  cases hs : isS rr 124 with
  | true =>
   rw [hs] at CS
   have hk4 := isS_kd hs
   have E1 := hE.sign hs
   have CT := zx (fun W (bW : Below wr.heap.size wr W) => vu W b G rr m d0 (hI.rd.later bW) hE.ne E1.ne)
   have hrt := qz hE.ne
   have HK := zx hs
   have HE1 := zx E1
   have hbr := hI.rd.lt
   clear hs hk4 hE hI E1
   go_wp2_with fail
   refine (zy CG _).mono ?_
   rintro e w2 ⟨rfl, b2⟩
   clear CG
   go_wp2_with fail
   refine (zy CS _ b2).mono ?_
   rintro e w3 ⟨rfl, b3⟩
   clear CS
   have B3 := zw b2 b3
   go_wp2_with fail
   refine (zy CT _ B3).mono ?_
   rintro e w4 ⟨v4, rfl, tv4, rd4, bu4⟩
   clear CT tv4
   have hI := zy HI
   have hs3 := B3.size
   have hs4 := bu4.size
   have MQ4 : Mq w4 m := (hI.mq.later B3).bu bu4 ((B3.block b hbr).trans hI.rd.cells.choose_spec.1)
   have CQ := zx (zy HSQ' w4 b G rr.tail m (by rw [zy HD0]; exact rd4) (zy HE1) (by omega) MQ4)
   rw [zy HD0] at CQ
   clear hI MQ4 rd4
   go_wp2_with fail
   refine (zy CQ).mono ?_
   clear CQ
   rintro e w5 (⟨v5, p5, r5, eg, rfl, pe5, E5, hl5, rd5, bu5⟩ | ⟨q5', y5, eg, rfl, bu5⟩)
   ·have ATN : Hid (altF (jw dd) (f' + 1) p0 (p0 :: acc) rr = altF (jw dd) f' p0 ((p0 :: acc) ++ [p5]) r5) := altF_more (zy HK) eg
    have hs5 := bu5.size
    have PE := zx (pe_new (w3 := w3) (w4 := w4) (w5 := w5) (pe5.kept (fun g hg => ⟨.inr hg, rfl⟩) (KR.refl _)) hs4 hs5)
    obtain ⟨x1, x2, x3, x4, x5, x6, x7, x8, x9, rfl, -⟩ := pe5.form
    have HO := Zy (Zy (ju B3 (zy HI).own) bu4 (by omega)) bu5 (by omega)
    have hs0 := (zy HI).bu.size
    have BU5 := zx (bu4.then bu5)
    have RD5 := zx rd5
    have HE5 := zx E5
    clear pe5 rd5 bu4 bu5 eg E5
    obtain ⟨ti, hi0, hz0, hz1, hz2⟩ := info_parts ZJ
    go_wp2_with (at_builtin; refine wpList_append_lies _ rfl _ _ 38 rfl (w.heap.size + 1) 40 ti _ 5 80 Tryz.underlying38 hi0 hz0 hz1 hz2 rfl (by omega) _ _ _ rfl (HO.alloc _) ⟨w5.heap.size, 0, none⟩ 1 1 [.int .i64 x1, .string x2, .slice x3 x4 x5, .slice x6 x7 x8, .int .i64 x9] rfl rfl (Xz _ _ _ _ _ _ _ rfl) (by simp [Value.oneCell']) (by omega) (by unfold maxLen; simp; omega) (by simp; omega) (by simp; omega) (w5.heap.size + 1) (by simp) ?_; intro gg cap1 w6 hown1 hgrow hat hlt1)
    have NI := RowI.snoc (zy HI) hbl hGl B3 (zy BU5) (zy HE5) (zy RD5) (zy PE) hown1 hgrow (by rcases hat with h | h; exact .inl h; exact .inr (by simp [h]))
    have NI' := zx NI
    clear hgrow hat hlt1 hown1 HO
    (try go_wp2_with fail)
    go_roundw
    case rel =>
     refine ⟨acc ++ [p5], p0, r5, f', _, ?_, ?_, ?_, zy NI'⟩
     ·rw [zy HS, zy ATN]; rfl
     ·omega
     ·rw [List.length_append, List.length_singleton]; omega
    case measure =>
     rw [(zy NI').rd.left, (zy HI).rd.left]
     omega
   ·have FIN : Hid (altL (jw dd) r = .inl (q5', y5)) := by show _ = _; rw [zy HS]; exact altF_bad (zy HK) eg
    have BF := zx ((((zy HI).bu.then (Bu.of B3)).then bu4).then bu5)
    clear eg
    unfold xj
    go_wp2_with fail
    exact ⟨rfl, .inr ⟨q5', y5, zy FIN, rfl, zy BF⟩⟩
  | false =>
   rw [hs] at CS
   have FIN : Hid (altL (jw dd) r = .inr (R.ZV 5 (p0 :: acc) (atP p0), rr)) := by show _ = _; rw [zy HS]; exact altF_stop hs
   obtain ⟨g5, rfl, hn5, hc5, hm5, cat⟩ := hI.head
   unfold maxLen at hm5
   have hfq : zW (atP p0) := by
    obtain ⟨c0, c1, c2, c3, c4, cs', -, hv, -⟩ := hI.pts
    exact hv.fitsQ
   have CO := zx (fun W (bW : Below wr.heap.size wr W) => theOne_l 5 (atP p0) (by unfold zW; omega) hfq (fun g => w.heap.size < g ∧ g < W.heap.size) (some ⟨g5, 0, none⟩) (p0 :: acc).length c5 (p0 :: acc) W (fun g hg => hg.2) ((zy HI).parts rfl bW))
   have CAT := zx (fun W (bW : Below wr.heap.size wr W) => (bW.cell (zY cat)).trans cat)
   have hbr := hI.rd.lt
   simp only [List.length_cons] at CO hc5 ⊢
   clear hs hE hI cat hfq
   go_wp2_with fail
   refine (zy CG _).mono ?_
   rintro e w2 ⟨rfl, b2⟩
   clear CG
   go_wp2_with fail
   refine (zy CS _ b2).mono ?_
   rintro e w3 ⟨rfl, b3⟩
   clear CS
   have B3 := zw b2 b3
   have cat3 := zy CAT _ B3
   clear CAT
   go_wp2_with fail
   refine (zy CO _ B3).mono ?_
   rintro e w4 ⟨v4, rfl, pe4, b4⟩
   clear CO
   have B4 := zw B3 b4
   have PE := zx pe4
   obtain ⟨z1, z2, z3, z4, z5, z6, z7, z8, z9, rfl, -⟩ := pe4.form
   clear pe4
   have hI := zy HI
   have OUT : w4.heap[w.heap.size]? = some (.cells #[.int .i64 0, .string ⟨#[]⟩, .slice none 0 0, .slice none 0 0, .int .i64 0] 40) := (B4.block _ (Array.getElem?_eq_some_iff.1 hI.out).1).trans hI.out
   obtain ⟨⟨y0, y1, y2, y3, y4⟩, k0, k1, k2, k3, k4⟩ := yV OUT
   clear hI
   go_wp2_with fail
   (try simp only [Exit.inBlock, Exit.then])
   have s4 := b4.size
   have X5 := fun (k : Nat) (hk : k ≠ w.heap.size) => xQ (W := w4) hk (.int .i64 z1) (.string z2) (.slice z3 z4 z5) (.slice z6 z7 z8) (.int .i64 z9)
   have KX : KR w4 (((((w4.setCell ⟨w.heap.size, 0, none⟩ (.int .i64 z1)).setCell ⟨w.heap.size, 1, none⟩ (.string z2)).setCell ⟨w.heap.size, 2, none⟩ (.slice z3 z4 z5)).setCell ⟨w.heap.size, 3, none⟩ (.slice z6 z7 z8)).setCell ⟨w.heap.size, 4, none⟩ (.int .i64 z9)) := fun g' cs fr hk => by
    rw [X5 g' (yz hk OUT (by decide))]; exact hk
   refine bodyPost_ret (v := .agg #[.int .i64 z1, .string z2, .slice z3 z4 z5, .slice z6 z7 z8, .int .i64 z9]) ?_ rfl (.inl ⟨_, _, rr, zy FIN, rfl, ?_, (zy HI).he, by omega, ?_, ?_⟩)
   ·exact jj rfl rfl (Zq OUT _ _ _ _ _)
   ·refine (zy PE).kept (fun g hg => ⟨⟨by have := hg.1; omega, by simp; have := hg.2; omega⟩, X5 g (by have := hg.1; omega)⟩) KX
   ·exact ((zy HI).rd.later B4).kept (X5 b (by omega)) (X5 G (by omega)) KX
   ·exact ((((((zy HI).bu.then (Bu.of B4)).setTop (Nat.le_refl _) _ _).setTop (Nat.le_refl _) _ _).setTop (Nat.le_refl _) _ _).setTop (Nat.le_refl _) _ _).setTop (Nat.le_refl _) _ _
theorem Rd.deep {w : World} {b G : Nat} {r : List TN} {m : Nat} {d : Int} (h : Rd w b G r m d) (d' : Int) : Rd (w.setCell ⟨b, 2, none⟩ (.int .i64 d')) b G r m d' := by
 obtain ⟨v, h1, hl⟩ := h
 exact ⟨v, by have := heap_setCell_same w b 2 _ _ (.int .i64 d') h1; simpa using this, Lf.bu (Bu.set b 2 w _) h1 hl⟩
theorem grp_zero : GrpC 0 := by
 intro w b G r m h hr hs hl hm
 have hbl := h.lt
 have E1 := hr.sign hs
 have HB : ∀ o, Below w.heap.size w (w.alloc o) := fun o => Below.new1 o
 have CT := zx (fun W (bW : Below w.heap.size w W) => vu W b G r m (dp 0) (h.later bW) hr.ne E1.ne)
 clear h hr hs hm E1
 go_enter Tryz.func117, Tryz.ntmps117
 go_wp2_with fail
 refine (zy CT _ (HB _)).mono ?_
 rintro e w1 ⟨v1, rfl, ⟨a1, c1, rfl, -, -⟩, rd1, bu1⟩
 clear CT
 obtain ⟨rc, hrc, -, q2, -⟩ := rd1.cells
 have q2' : ∀ o, (w1.alloc o).cell? ⟨b, 2, none⟩ = some (.int .i64 12) := fun o => ((Below.new1 o).cell (zY q2)).trans q2
 clear q2 hrc
 go_wp2_with fail
 exact ⟨rfl, .inr ⟨pl r, 4, rfl, rfl, ((Bu.of (HB _)).then bu1).alloc _⟩⟩
theorem close_yes {x : Res PT} {p : PT} {r : List TN} (h : x = .inr (p, r)) (hs : isS r 41 = true) : closeL x = .inr (p, r.tail) := by
 rw [h]; unfold closeL; simp only; rw [if_pos hs]
theorem close_no {x : Res PT} {p : PT} {r : List TN} (h : x = .inr (p, r)) (hs : isS r 41 = false) : closeL x = .inl (pl r, 3) := by
 rw [h]; unfold closeL; simp only; rw [hs]; rfl
theorem close_bad {x : Res PT} {e : Nat × Int} (h : x = .inl e) : closeL x = .inl e := by
 rw [h]; rfl
theorem grp_succ {dd : Nat} (hdd : dd < 12) (HAL : AltC dd) : GrpC (dd + 1) := by
 intro w b G r m h hr hs hl hm
 have hbl := h.lt
 have hGl := h.ltG
 have E1 := hr.sign hs
 have hrt := qz hr.ne
 have HB : ∀ o, Below w.heap.size w (w.alloc o) := fun o => Below.new1 o
 have CT := zx (fun W (bW : Below w.heap.size w W) => vu W b G r m (dp (dd + 1)) (h.later bW) hr.ne E1.ne)
 have e0 : dp dd = dp (dd + 1) + 1 := by unfold dp; omega
 have hd1 : 0 ≤ dp (dd + 1) ∧ dp (dd + 1) ≤ 11 := by unfold dp; omega
 have CA := zx (fun W (k1 : Rd W b G r.tail m (dp dd)) (k2 : Mq W m) => HAL W b G r.tail m k1 E1 (by omega) k2)
 rw [e0] at CA
 have HM := zx hm
 have HRC := zx h.cells
 clear h hr hs hm E1 HAL e0
 generalize dp (dd + 1) = D1 at *
 obtain ⟨hd1, hd2⟩ := hd1
 have n12 : (D1 == 12) = false := beq_eq_false_iff_ne.2 (by omega)
 go_enter Tryz.func117, Tryz.ntmps117
 go_wp2_with fail
 refine (zy CT _ (HB _)).mono ?_
 rintro e w1 ⟨v1, rfl, ⟨a1, c1, rfl, -, -⟩, rd1, bu1⟩
 clear CT
 obtain ⟨rc, hrc, -, q2, f2⟩ := rd1.cells
 have hb1 := rd1.lt
 have q2' : ∀ o, (w1.alloc o).cell? ⟨b, 2, none⟩ = some (.int .i64 D1) := fun o => ((Below.new1 o).cell (zY q2)).trans q2
 have MQ1 : Mq w1 m := ((zy HM).later (HB _)).bu bu1 (((HB _).block b hbl).trans (zy HRC).choose_spec.1)
 have OUT1 := bu1.at (heap_alloc_new w _) (show w.heap.size ≠ b by omega)
 have HO1 := zx OUT1
 have s1 : w.heap.size < w1.heap.size := (Array.getElem?_eq_some_iff.1 OUT1).1
 have BU1 := zx ((Bu.of (HB _)).then bu1)
 have RD1 := zx rd1
 have HMQ1 := zx MQ1
 have HRC1 := zx hrc
 clear HM HRC MQ1 OUT1 bu1 rd1 hrc
 go_wp2_with fail
 generalize hWW : (w1.setCell ⟨b, 2, none⟩ (.int .i64 (D1 + 1))).alloc (.cells #[.int .i64 (kd r), .string (strOfNums (tx r)), .slice a1 (rg r).length c1, .int .i64 (pl r : Nat)] 124) = WW at *
 have RDW : Rd WW b G r.tail m (D1 + 1) := by rw [← hWW]; exact ((zy RD1).deep _).later (Below.new1 _)
 have MQW : Mq WW m := by rw [← hWW]; exact ((zy HMQ1).bu (Bu.set b 2 w1 _) (zy HRC1)).later (Below.new1 _)
 have BUW : Bu b w WW := by rw [← hWW]; exact ((zy BU1).setOwn _ _).alloc _
 have OUTW : WW.heap[w.heap.size]? = some (.cells #[.int .i64 0, .string ⟨#[]⟩, .slice none 0 0, .slice none 0 0, .int .i64 0] 40) := by rw [← hWW]; exact zK (zj (zy HO1) (by omega) _) _
 have CB := zx (zy CA _ RDW MQW)
 have htl : r.tail.length = r.length - 1 := List.length_tail
 clear CA q2' q2 f2 HO1 BU1 RD1 HMQ1 HRC1 hWW RDW MQW n12 hb1 s1
 have sW : w.heap.size < WW.heap.size := (Array.getElem?_eq_some_iff.1 OUTW).1
 refine (zy CB).mono ?_
 clear CB
 rintro e w3 (⟨v3, p3, r3, eg, rfl, pe3, E3, hl3, rd3, bu3⟩ | ⟨q3, y3, eg, rfl, bu3⟩)
 case inr =>
  have FIN : Hid (jw (dd + 1) r = .inl (q3, y3)) := by show _ = _; unfold jw; exact close_bad eg
  clear eg
  unfold xj
  go_wp2_with fail
  exact ⟨rfl, .inr ⟨q3, y3, zy FIN, rfl, BUW.then bu3⟩⟩
 have OUT3 := bu3.at OUTW (show w.heap.size ≠ b by omega)
 have s3 := bu3.size
 have PE := zx pe3
 obtain ⟨x1, x2, x3, x4, x5, x6, x7, x8, x9, rfl, -⟩ := pe3.form
 have BU3 := zx (BUW.then bu3)
 have CG := zx (fun W => ZW ⟨#[41]⟩ W)
 have h41 : U.zq [41] := yW (by omega) (by omega) (fun z hz => by cases hz)
 have e41 : strOfNums [41] = ⟨#[41]⟩ := rfl
 have HB3 : ∀ o, Below w3.heap.size w3 (w3.alloc o) := fun o => Below.new1 o
 have HE3 := zx E3
 have HRD3 := zx rd3
 have hb3 := rd3.lt
 have hG3 := rd3.ltG
 cases hs : isS r3 41 with
 | false =>
  have FIN : Hid (jw (dd + 1) r = .inl (pl r3, 3)) := by show _ = _; unfold jw; exact close_no eg hs
  have CN := zx (fun W (bW : Below w3.heap.size w3 W) => need_no W b G r3 m (D1 + 1) (rd3.later bW) E3 4 [41] h41 (fun c => by have := XV r3 41; rw [hs, decide_eq_true c] at this; cases this))
  rw [e41] at CN
  clear eg hs pe3 E3 rd3 bu3
  go_wp2_with fail
  refine (zy CG _).mono ?_
  rintro e w4 ⟨rfl, b4⟩
  clear CG
  go_wp2_with fail
  refine (zy CN _ (zw (HB3 _) b4)).mono ?_
  rintro e w5 ⟨rfl, bu5⟩
  clear CN
  unfold xj
  go_wp2_with fail
  exact ⟨rfl, .inr ⟨pl r3, 3, zy FIN, rfl, ((zy BU3).then (Bu.of (zw (HB3 _) b4))).then bu5⟩⟩
 | true =>
  have FIN : Hid (jw (dd + 1) r = .inr (p3, r3.tail)) := by show _ = _; unfold jw; exact close_yes eg hs
  have E4 := E3.sign hs
  have hr4 := qz E3.ne
  have CN := zx (fun W (bW : Below w3.heap.size w3 W) => Xy W b G r3 m (D1 + 1) (rd3.later bW) E3 E4.ne 4 [41] h41 (of_decide_eq_true ((XV r3 41).trans hs)))
  rw [e41] at CN
  have HE4 := zx E4
  clear eg hs pe3 E3 rd3 bu3 E4
  go_wp2_with fail
  refine (zy CG _).mono ?_
  rintro e w4 ⟨rfl, b4⟩
  clear CG
  have B4 := zw (HB3 _) b4
  have P4 := zV b4
  go_wp2_with fail
  refine (zy CN _ B4).mono ?_
  rintro e w5 ⟨v5, rfl, tv5, rd5, bu5⟩
  clear CN tv5
  have P5 := bu5.at P4 (show w3.heap.size ≠ b by omega)
  have OUT5 := bu5.at ((B4.block _ (Array.getElem?_eq_some_iff.1 OUT3).1).trans OUT3) (show w.heap.size ≠ b by omega)
  obtain ⟨rc5, hrc5, -, q2, f2⟩ := rd5.cells
  have s4 := B4.size
  have s5 := bu5.size
  obtain ⟨⟨y0, y1, y2, y3, y4⟩, k0, k1, k2, k3, k4⟩ := yV OUT5
  obtain ⟨⟨m0, m1, m2, m3, m4⟩, -⟩ := yV P5
  have nP : w3.heap.size ≠ b := by omega
  have nO : w.heap.size ≠ b := by omega
  have mm : ∀ u i, (w5.setCell ⟨b, 2, none⟩ u).cell? ⟨w3.heap.size, i, none⟩ = w5.cell? ⟨w3.heap.size, i, none⟩ := fun u i => World.cell?_of_block (Below.heap_setCell w5 ⟨b, 2, none⟩ u _ nP)
  have yy : ∀ u i, (w5.setCell ⟨b, 2, none⟩ u).cell? ⟨w.heap.size, i, none⟩ = w5.cell? ⟨w.heap.size, i, none⟩ := fun u i => World.cell?_of_block (Below.heap_setCell w5 ⟨b, 2, none⟩ u _ nO)
  go_wp2_with fail
  (try simp only [Exit.inBlock, Exit.then])
  have hI5 : (w5.setCell ⟨b, 2, none⟩ (.int .i64 D1)).heap[w.heap.size]? = some (.cells #[.int .i64 0, .string ⟨#[]⟩, .slice none 0 0, .slice none 0 0, .int .i64 0] 40) := zj OUT5 nO _
  have X5 := fun (k : Nat) (hk : k ≠ w.heap.size) => xQ (W := w5.setCell ⟨b, 2, none⟩ (.int .i64 D1)) hk (.int .i64 x1) (.string x2) (.slice x3 x4 x5) (.slice x6 x7 x8) (.int .i64 x9)
  have KX : KR (w5.setCell ⟨b, 2, none⟩ (.int .i64 D1)) ((((((w5.setCell ⟨b, 2, none⟩ (.int .i64 D1)).setCell ⟨w.heap.size, 0, none⟩ (.int .i64 x1)).setCell ⟨w.heap.size, 1, none⟩ (.string x2)).setCell ⟨w.heap.size, 2, none⟩ (.slice x3 x4 x5)).setCell ⟨w.heap.size, 3, none⟩ (.slice x6 x7 x8)).setCell ⟨w.heap.size, 4, none⟩ (.int .i64 x9)) := fun g' cs fr hk => by
   rw [X5 g' (yz hk hI5 (by decide))]; exact hk
  obtain ⟨rc3, hrc3, -⟩ := (zy HRD3).cells
  have KA : KR w3 (w5.setCell ⟨b, 2, none⟩ (.int .i64 D1)) := ((KR.of B4).then (KR.bu bu5 ((B4.block b hb3).trans hrc3) (by decide))).set hrc5 (by decide) _ _
  refine bodyPost_ret (v := .agg #[.int .i64 x1, .string x2, .slice x3 x4 x5, .slice x6 x7 x8, .int .i64 x9]) ?_ rfl (.inl ⟨_, p3, r3.tail, zy FIN, rfl, ?_, zy HE4, by omega, ?_, ?_⟩)
  ·exact jj rfl rfl (Zq hI5 _ _ _ _ _)
  ·refine (zy PE).kept (fun g hg => ⟨⟨by have := hg.1; omega, by simp; have := hg.2; omega⟩, ?_⟩) (KA.then KX)
   obtain ⟨g1, g2⟩ := hg
   rw [X5 g (by omega), Below.heap_setCell w5 ⟨b, 2, none⟩ _ g (show g ≠ b by omega), bu5.block g (by omega) (fun e => by injection e; omega), B4.block g g2]
  ·exact (rd5.deep _).kept (X5 b (by omega)) (X5 G (by omega)) KX
  ·exact (((((((((zy BU3).then (Bu.of B4)).then bu5).setOwn _ _).setTop (Nat.le_refl _) _ _).setTop (Nat.le_refl _) _ _).setTop (Nat.le_refl _) _ _).setTop (Nat.le_refl _) _ _).setTop (Nat.le_refl _) _ _)
theorem all_c : ∀ d, d ≤ 12 → GrpC d ∧ AltC d := by
 intro d
 induction d with
 | zero => intro _; exact ⟨grp_zero, alt_of (seq_of grp_zero)⟩
 | succ d ih =>
  intro h
  have g := grp_succ (by omega) (ih (by omega)).2
  exact ⟨g, alt_of (seq_of g)⟩
theorem alt_c : AltC 12 := (all_c 12 (Nat.le_refl _)).2
theorem XZ {x y : List Int} (hx : U.zq x) (hy : U.zq y) {l : List UInt8} (hl : (strOfNums y).toList = l) : ((strOfNums x).toList == l) = decide (x = y) := by
 rw [← hl]
 exact str_eq_list (St.of hx) (St.of hy)
theorem yJ {l : List Int} (h : l.all (fun z => decide (0 ≤ z) && decide (z ≤ 255)) = true) : U.zq l := by
 intro z hz
 have := List.all_eq_true.1 h z hz
 simp at this
 exact this
theorem m0_lit : (strOfNums [108, 111, 110, 103]).toList = [108, 111, 110, 103] := by decide +kernel
theorem m1_lit : (strOfNums [114, 101, 115]).toList = [114, 101, 115] := by decide +kernel
theorem m2_lit : (strOfNums [111, 102, 102]).toList = [111, 102, 102] := by decide +kernel
theorem m3_lit : (strOfNums [98, 108, 111, 99, 107]).toList = [98, 108, 111, 99, 107] := by decide +kernel
theorem m4_lit : (strOfNums [97, 108, 105, 103, 110]).toList = [97, 108, 105, 103, 110] := by decide +kernel
theorem m5_lit : (strOfNums [115, 121, 110, 99]).toList = [115, 121, 110, 99] := by decide +kernel
theorem markBit_l (x : List Int) (hx : U.zq x) (w : World) :
  Calls Tryz.prog 165 #[.string (strOfNums x)] w fun e w' => e = .returned (.int .i64 (bitOf x : Nat)) ∧ Below w.heap.size w w' := by
 have s0 := XZ hx (y := [108, 111, 110, 103]) (yJ (by decide)) m0_lit
 have s1 := XZ hx (y := [114, 101, 115]) (yJ (by decide)) m1_lit
 have s2 := XZ hx (y := [111, 102, 102]) (yJ (by decide)) m2_lit
 have s3 := XZ hx (y := [98, 108, 111, 99, 107]) (yJ (by decide)) m3_lit
 have s4 := XZ hx (y := [97, 108, 105, 103, 110]) (yJ (by decide)) m4_lit
 have s5 := XZ hx (y := [115, 121, 110, 99]) (yJ (by decide)) m5_lit
 unfold bitOf
 by_cases h0 : x = [108, 111, 110, 103]
 ·rw [if_pos h0]
  rw [decide_eq_true h0] at s0
  clear h0 hx
  clear s1 s2 s3 s4 s5
  generalize strOfNums x = S at *
  go_enter Tryz.func165, Tryz.ntmps165
  go_wp2_with fail
  go_ret
  exact ⟨rfl, Below.refl _ _⟩
 rw [if_neg h0]
 rw [decide_eq_false h0] at s0
 clear h0
 by_cases h1 : x = [114, 101, 115]
 ·rw [if_pos h1]
  rw [decide_eq_true h1] at s1
  clear h1 hx
  clear s2 s3 s4 s5
  generalize strOfNums x = S at *
  go_enter Tryz.func165, Tryz.ntmps165
  go_wp2_with fail
  go_ret
  exact ⟨rfl, Below.refl _ _⟩
 rw [if_neg h1]
 rw [decide_eq_false h1] at s1
 clear h1
 by_cases h2 : x = [111, 102, 102]
 ·rw [if_pos h2]
  rw [decide_eq_true h2] at s2
  clear h2 hx
  clear s3 s4 s5
  generalize strOfNums x = S at *
  go_enter Tryz.func165, Tryz.ntmps165
  go_wp2_with fail
  go_ret
  exact ⟨rfl, Below.refl _ _⟩
 rw [if_neg h2]
 rw [decide_eq_false h2] at s2
 clear h2
 by_cases h3 : x = [98, 108, 111, 99, 107]
 ·rw [if_pos h3]
  rw [decide_eq_true h3] at s3
  clear h3 hx
  clear s4 s5
  generalize strOfNums x = S at *
  go_enter Tryz.func165, Tryz.ntmps165
  go_wp2_with fail
  go_ret
  exact ⟨rfl, Below.refl _ _⟩
 rw [if_neg h3]
 rw [decide_eq_false h3] at s3
 clear h3
 by_cases h4 : x = [97, 108, 105, 103, 110]
 ·rw [if_pos h4]
  rw [decide_eq_true h4] at s4
  clear h4 hx
  clear s5
  generalize strOfNums x = S at *
  go_enter Tryz.func165, Tryz.ntmps165
  go_wp2_with fail
  go_ret
  exact ⟨rfl, Below.refl _ _⟩
 rw [if_neg h4]
 rw [decide_eq_false h4] at s4
 clear h4
 by_cases h5 : x = [115, 121, 110, 99]
 ·rw [if_pos h5]
  rw [decide_eq_true h5] at s5
  clear h5 hx
  generalize strOfNums x = S at *
  go_enter Tryz.func165, Tryz.ntmps165
  go_wp2_with fail
  go_ret
  exact ⟨rfl, Below.refl _ _⟩
 rw [if_neg h5]
 rw [decide_eq_false h5] at s5
 clear h5
 clear hx
 generalize strOfNums x = S at *
 go_enter Tryz.func165, Tryz.ntmps165
 go_wp2_with fail
 go_ret
 exact ⟨rfl, Below.refl _ _⟩
theorem marksF_yes {f k : Nat} {r : List TN} (h : kd r = 5) : XK (f + 1) k r = XK f (k ||| bitOf (tx r)) r.tail := by
 conv => lhs; unfold XK
 rw [if_pos h]
theorem marksF_no {f k : Nat} {r : List TN} (h : kd r ≠ 5) : XK (f + 1) k r = (k, r) := by
 unfold XK
 rw [if_neg h]
theorem bit_le (x : List Int) : bitOf x ≤ 63 := by
 unfold bitOf
 repeat' split
 all_goals omega
theorem or_lt {a b : Nat} (ha : a ≤ 63) (hb : b ≤ 63) : a ||| b ≤ 63 := by
 have := Nat.or_lt_two_pow (n := 6) (x := a) (y := b) (by omega) (by omega)
 omega
theorem or_bits : ∀ a b : Fin 64, bits .or .i64 (a.val : Int) (b.val : Int) = ((a.val ||| b.val : Nat) : Int) := by decide +kernel
theorem or_int {a b : Nat} (ha : a ≤ 63) (hb : b ≤ 63) : bits .or .i64 (a : Int) (b : Int) = ((a ||| b : Nat) : Int) := or_bits ⟨a, by omega⟩ ⟨b, by omega⟩
theorem marks_l (w : World) (b G : Nat) (r : List TN) (m : Nat) (d : Int) (h : Rd w b G r m d) (hr : Ends r) :
  Calls Tryz.prog 122 #[.pointer (some ⟨b, 0, none⟩)] w fun e w' => e = .returned (.int .i64 ((jv r).1 : Nat)) ∧ (jv r).1 ≤ 63 ∧ Ends (jv r).2 ∧ (jv r).2.length ≤ r.length ∧ Rd w' b G (jv r).2 m d ∧ Bu b w w' := by
 have HST := zx (And.intro h hr)
 clear h hr
 go_enter Tryz.func122, Tryz.ntmps122
 go_wp2_with fail
 go_loopw [3] (fun v wr => ∃ k : Nat, v = .int .i64 (k : Int) ∧ k ≤ 63 ∧ Hid (∃ (rr : List TN) (f : Nat), jv r = XK f k rr ∧ rr.length ≤ f ∧ rr.length ≤ r.length ∧ Ends rr ∧ Rd wr b G rr m d ∧ Bu b w wr)) (fun _ wr => leftN b wr)
 case atStart => exact ⟨0, rfl, by omega, r, r.length, rfl, Nat.le_refl _, Nat.le_refl _, (zy HST).2, (zy HST).1, Bu.refl _ _⟩
 case round =>
  obtain ⟨k, rfl, hk, hq⟩ := hrel
  obtain ⟨rr, f, hS, hff, hrl, hE, rd, bu⟩ := zy hq
  have hpos : 1 ≤ rr.length := by cases hq : rr with | nil => exact absurd hq hE.ne | cons x y => simp
  obtain ⟨f', rfl⟩ : ∃ f', f = f' + 1 := ⟨f - 1, by omega⟩
  have CS := zx (sees_l wr b G rr m d rd hE 5 [] (fun z hz => by cases hz))
  rw [XW rr 5 (by decide)] at CS
  have e5 : strOfNums [] = ⟨#[]⟩ := rfl
  rw [e5] at CS
  have HS := zx hS
  have HRD := zx rd
  have HE := zx hE
  have HBU := zx bu
  by_cases h5 : kd rr = 5
  ·rw [decide_eq_true h5] at CS
   have E1 := hE.tail (by rw [h5]; decide)
   have hrt := qz hE.ne
   have CT := zx (fun W (bW : Below wr.heap.size wr W) => vu W b G rr m d (rd.later bW) hE.ne E1.ne)
   have CM := zx (fun W => markBit_l (tx rr) hE.bytes W)
   have hor := or_int hk (bit_le (tx rr))
   have hol := or_lt hk (bit_le (tx rr))
   have STEP : Hid (jv r = XK f' (k ||| bitOf (tx rr)) rr.tail) := hS.trans (marksF_yes h5)
   have HE1 := zx E1
   have hf := tok_field1
   clear h5 hE rd hS E1 hq e5 bu
   go_wp2_with fail
   refine (zy CS).mono ?_
   rintro e w1 ⟨rfl, b1⟩
   clear CS
   go_wp2_with fail
   refine (zy CT _ b1).mono ?_
   rintro e w2 ⟨v2, rfl, ⟨a2, c2, rfl, -, -⟩, rd2, bu2⟩
   clear CT
   go_wp2_with fail
   refine (zy CM _).mono ?_
   rintro e w3 ⟨rfl, b3⟩
   clear CM
   have RD3 := rd2.later b3
   go_wp2_with fail
   go_roundw
   case rel => exact ⟨k ||| bitOf (tx rr), by first | rfl | rw [hor], hol, rr.tail, f', zy STEP, by omega, by omega, zy HE1, RD3, (((zy HBU).then (Bu.of b1)).then bu2).then (Bu.of b3)⟩
   case measure => rw [RD3.left, (zy HRD).left]; exact hrt
  ·rw [decide_eq_false h5] at CS
   have FIN : Hid (jv r = (k, rr)) := hS.trans (marksF_no h5)
   clear h5 hE rd hS hq e5 bu
   go_wp2_with fail
   refine (zy CS).mono ?_
   rintro e w1 ⟨rfl, b1⟩
   clear CS
   go_wp2_with fail
   go_ret
   rw [zy FIN]
   exact ⟨rfl, hk, zy HE, hrl, (zy HRD).later b1, (zy HBU).then (Bu.of b1)⟩
def NRES (b G m : Nat) (d : Int) (n : Nat) (w : World) (x : Res (List (Int × Int))) (e : Ending) (w' : World) : Prop :=
 (∃ a c N r', x = .inr (N, r') ∧ e = .returned (.slice a N.length c) ∧ Rs w' a N.length c N ∧ Ty w' a ∧ Ends r' ∧ r'.length ≤ n ∧ Rd w' b G r' m d ∧ Bu b w w') ∨ (∃ q why, x = .inl (q, why) ∧ e = xj q why ∧ Bu b w w')
theorem not_l (w : World) (b G : Nat) (r : List TN) (m : Nat) (d : Int) (h : Rd w b G r m d) (hr : Ends r) :
  Calls Tryz.prog 124 #[.pointer (some ⟨b, 0, none⟩)] w (NRES b G m d r.length w (notL r)) := by
 have CG := zx (fun W => ZW ⟨#[47]⟩ W)
 have CS := zx (fun W (bW : Below w.heap.size w W) => sees_l W b G r m d (h.later bW) hr 4 [47] (yJ (by decide)))
 rw [XV] at CS
 have e47 : strOfNums [47] = ⟨#[47]⟩ := rfl
 rw [e47] at CS
 have hbl := h.lt
 cases hs : isS r 47 with
 | false =>
  rw [hs] at CS
  have FIN : Hid (notL r = .inr ([], r)) := by show _ = _; unfold notL; rw [hs]; rfl
  have HST := zx (And.intro h hr)
  clear h hr hs e47
  go_enter Tryz.func124, Tryz.ntmps124
  go_wp2_with fail
  refine (zy CG _).mono ?_
  rintro e w1 ⟨rfl, b1⟩
  clear CG
  go_wp2_with fail
  refine (zy CS _ b1).mono ?_
  rintro e w2 ⟨rfl, b2⟩
  clear CS
  have B2 := zw b1 b2
  go_wp2_with fail
  go_ret
  exact .inl ⟨none, 0, [], r, zy FIN, rfl, Rs.nil _, Ty.nil _, (zy HST).2, Nat.le_refl _, (zy HST).1.later B2, Bu.of B2⟩
 | true =>
  rw [hs] at CS
  have E1 := hr.sign hs
  have hrt := qz hr.ne
  have CT := zx (fun W (bW : Below w.heap.size w W) => vu W b G r m d (h.later bW) hr.ne E1.ne)
  have e0 : strOfNums [] = ⟨#[]⟩ := rfl
  by_cases h2 : kd r.tail = 2
  ·have FIN : Hid (notL r = .inr (rg r.tail, r.tail.tail)) := by show _ = _; unfold notL; rw [hs, if_pos h2]; rfl
   have E2 := E1.tail (by rw [h2]; decide)
   have hrt2 := qz E1.ne
   have CN := zx (fun W (k : Rd W b G r.tail m d) => Xy W b G r.tail m d k E1 E2.ne 2 [] (fun z hz => by cases hz) (of_decide_eq_true ((XW r.tail 2 (by decide)).trans (decide_eq_true h2))))
   rw [e0] at CN
   have HE2 := zx E2
   have hf := tok_field2
   clear h hr hs e47 e0 E1 E2 h2
   go_enter Tryz.func124, Tryz.ntmps124
   go_wp2_with fail
   refine (zy CG _).mono ?_
   rintro e w1 ⟨rfl, b1⟩
   clear CG
   go_wp2_with fail
   refine (zy CS _ b1).mono ?_
   rintro e w2 ⟨rfl, b2⟩
   clear CS
   have B2 := zw b1 b2
   go_wp2_with fail
   refine (zy CT _ B2).mono ?_
   rintro e w3 ⟨v3, rfl, tv3, rd3, bu3⟩
   clear CT tv3
   go_wp2_with fail
   refine (zy CN _ rd3).mono ?_
   rintro e w4 ⟨v4, rfl, ⟨a4, c4, rfl, hrs, hys⟩, rd4, bu4⟩
   clear CN
   go_wp2_with fail
   go_ret
   exact .inl ⟨a4, c4, rg r.tail, r.tail.tail, zy FIN, rfl, hrs, hys, zy HE2, by omega, rd4, ((Bu.of B2).then bu3).then bu4⟩
  ·have FIN : Hid (notL r = .inl (pl r.tail, 3)) := by show _ = _; unfold notL; rw [hs, if_neg h2]; rfl
   have CN := zx (fun W (k : Rd W b G r.tail m d) => need_no W b G r.tail m d k E1 2 [] (fun z hz => by cases hz) (fun c => by have := XW r.tail 2 (by decide); rw [decide_eq_true c, decide_eq_false h2] at this; cases this))
   rw [e0] at CN
   clear h hr hs e47 e0 E1 h2
   go_enter Tryz.func124, Tryz.ntmps124
   go_wp2_with fail
   refine (zy CG _).mono ?_
   rintro e w1 ⟨rfl, b1⟩
   clear CG
   go_wp2_with fail
   refine (zy CS _ b1).mono ?_
   rintro e w2 ⟨rfl, b2⟩
   clear CS
   have B2 := zw b1 b2
   go_wp2_with fail
   refine (zy CT _ B2).mono ?_
   rintro e w3 ⟨v3, rfl, tv3, rd3, bu3⟩
   clear CT tv3
   go_wp2_with fail
   refine (zy CN _ rd3).mono ?_
   rintro e w4 ⟨rfl, bu4⟩
   clear CN
   unfold xj
   go_wp2_with fail
   exact ⟨rfl, .inr ⟨pl r.tail, 3, zy FIN, rfl, ((Bu.of B2).then bu3).then bu4⟩⟩
def Ss (D : Nat → Prop) (w : World) (a : Option Addr) (len cap : Nat) (ks : List (List Int)) : Prop :=
 ks.length = len ∧ len ≤ cap ∧ cap ≤ maxLen ∧ (∀ k ∈ ks, U.zq k) ∧ ∀ (j : Nat) (k : List Int), ks[j]? = some k → ∃ g off, a = some ⟨g, off, none⟩ ∧ D g ∧ w.cell? ⟨g, off + j, none⟩ = some (.string (strOfNums k))
theorem Ss.kept {D D' : Nat → Prop} {w X : World} {a : Option Addr} {len cap : Nat} {ks : List (List Int)} (h : Ss D w a len cap ks) (k : ∀ g, D g → D' g ∧ X.heap[g]? = w.heap[g]?) : Ss D' X a len cap ks := by
 obtain ⟨h1, h2, h3, h4, h5⟩ := h
 refine ⟨h1, h2, h3, h4, fun j x hx => ?_⟩
 obtain ⟨g, off, ha, hd, hc⟩ := h5 j x hx
 exact ⟨g, off, ha, (k g hd).1, by rw [World.cell?_of_block (k g hd).2]; exact hc⟩
def strC (ks : List (List Int)) : List Value := ks.map fun k => .string (strOfNums k)
theorem own_ss {w : World} {base : Nat} {a : Option Addr} {n c : Nat} {ks : List (List Int)} (h : w.ownsRow base 9 1 (.slice a n c) n (strC ks)) (hn : n = ks.length) (hb : ∀ k ∈ ks, U.zq k) : Ss (fun g => base ≤ g ∧ g < w.heap.size) w a n c ks := by
 subst hn
 rcases h.2 with ⟨e, h0⟩ | ⟨g, cap, cur, e, hbs, hg, hn, hm, hs, ht⟩
 ·injection e with e1 e2 e3
  subst e1; subst e3
  have : ks = [] := List.eq_nil_of_length_eq_zero h0
  subst this
  exact ⟨rfl, Nat.le_refl _, Nat.zero_le _, hb, fun j u hu => by simp at hu⟩
 ·injection e with e1 e2 e3
  subst e1; subst e3
  refine ⟨rfl, hn, hm, hb, fun j u hu => ⟨g, 0, rfl, ⟨hbs, (Array.getElem?_eq_some_iff.1 hg).1⟩, ?_⟩⟩
  rw [Nat.zero_add]
  simp only [World.cell?, hg]
  have hj : j < ks.length := (List.getElem?_eq_some_iff.1 hu).1
  have h2 : (strC ks)[j]? = some (.string (strOfNums u)) := by simp [strC, hu]
  rw [← ht, List.getElem?_take_of_lt (by omega)] at h2
  simpa using h2
theorem own_str {w : World} {base : Nat} {v : Value} {n : Nat} {cs : List Value} {T : TypeId} {sz : Nat} (h : w.ownsRow base T sz v n cs) : ∀ k, v.ownBlock = some k → ∃ cs', w.heap[k]? = some (.cells cs' T) := by
 intro k hk
 rcases h.2 with ⟨rfl, _⟩ | ⟨g, cap, cur, rfl, hb, hg, _⟩
 ·simp [Value.ownBlock] at hk
 ·simp [Value.ownBlock] at hk
  subst hk
  exact ⟨cur, hg⟩
theorem vw {w w' : World} {b base : Nat} {v : Value} {n : Nat} {cs : List Value} {T : TypeId} {sz : Nat} (h : w.ownsRow base T sz v n cs) (bu : Bu b w w') (hb : b < base) : w'.ownsRow base T sz v n cs :=
 h.kept bu (by
  cases e : v.ownBlock with
  | none => exact .inl rfl
  | some k => exact .inr (fun c => by injection c with c; have := (h.lt k e).1; omega))
theorem Rd.grown {w4 w5 : World} {b G : Nat} {r : List TN} {m : Nat} {d : Int} {base : Nat} {v : Value} {n : Nat} {cs : List Value} {T : TypeId} {sz : Nat} {o : Obj} (h : Rd w4 b G r m d) (own : w4.ownsRow base T sz v n cs) (hT : 169 ≠ T) (hb : b < base) (hG : G < base) (hg : (w4.alloc o).grownBy w5 v.ownBlock) : Rd w5 b G r m d := by
 have lo := own.lt
 have sA : (w4.alloc o).heap.size = w4.heap.size + 1 := by simp
 have l1 := h.lt
 have l2 := h.ltG
 refine h.kept ?_ ?_ ?_
 ·rw [hg.block b (by omega) (fun e => by have := (lo b e.symm).1; omega), (Below.new1 o).block b (by omega)]
 ·rw [hg.block G (by omega) (fun e => by have := (lo G e.symm).1; omega), (Below.new1 o).block G (by omega)]
 ·refine (KR.of (Below.new1 o)).then (KR.grown hg fun k hk => ?_)
  obtain ⟨cs', hc⟩ := own_str own k hk
  exact ⟨cs', T, _, zK hc o, hT⟩
theorem str_info : (Tryz.prog.info? 9).map (fun i => (i.zero, i.size, i.bytes)) = some (some (.string ⟨#[]⟩), 1, 16) := by kernel_rfl
theorem new_str (w : World) (n : Nat) (x0 : Value) (hn : n = w.heap.size) : ∀ (j : Nat) (u : Value), [x0][j]? = some u → (w.alloc (.cells #[x0] 9)).cell? ((⟨n, 0, none⟩ : Addr).add j) = some u := by
 subst hn
 exact World.news_of_block (cs := #[x0]) (t := 9) (fr := (0, 0)) (heap_alloc_new w _)
theorem strC_snoc (ks : List (List Int)) (k : List Int) : strC ks ++ [.string (strOfNums k)] = strC (ks ++ [k]) := by simp [strC]
theorem keysF_more {f : Nat} {acc : List (List Int)} {r : List TN} (h : kd r = 1) (h8 : acc.length ≠ 8) : kK (f + 1) acc r = kK f (acc ++ [tx r]) r.tail := by
 conv => lhs; unfold kK
 rw [if_pos h, if_neg h8]
theorem keysF_many {f : Nat} {acc : List (List Int)} {r : List TN} (h : kd r = 1) (h8 : acc.length = 8) : kK (f + 1) acc r = .inl (pl r, 7) := by
 unfold kK
 rw [if_pos h, if_pos h8]
theorem keysF_none {f : Nat} {r : List TN} (h : kd r ≠ 1) : kK (f + 1) [] r = .inl (pl r, 3) := by
 unfold kK
 rw [if_neg h, if_pos rfl]
theorem keysF_end {f : Nat} {acc : List (List Int)} {r : List TN} (h : kd r ≠ 1) (ha : acc ≠ []) (hs : isS r 59 = true) : kK (f + 1) acc r = .inr (acc, r.tail) := by
 unfold kK
 rw [if_neg h, if_neg ha, if_pos hs]
theorem keysF_bad {f : Nat} {acc : List (List Int)} {r : List TN} (h : kd r ≠ 1) (ha : acc ≠ []) (hs : isS r 59 = false) : kK (f + 1) acc r = .inl (pl r, 3) := by
 unfold kK
 rw [if_neg h, if_neg ha, hs]
 rfl
def KRES (b G m : Nat) (d : Int) (n : Nat) (w : World) (x : Res (List (List Int))) (e : Ending) (w' : World) : Prop :=
 (∃ a c K r', x = .inr (K, r') ∧ e = .returned (.slice a K.length c) ∧ Ss (New w w') w' a K.length c K ∧ K.length ≤ 8 ∧ Ends r' ∧ r'.length ≤ n ∧ Rd w' b G r' m d ∧ Bu b w w') ∨ (∃ q why, x = .inl (q, why) ∧ e = xj q why ∧ Bu b w w')
theorem need_kind {r : List TN} {k : Int} (hk : k ≠ 4) (h : kd r = k) : R.lk r = (k, []) := of_decide_eq_true ((XW r k hk).trans (decide_eq_true h))
theorem need_kind' {r : List TN} {k : Int} (hk : k ≠ 4) (h : kd r ≠ k) : R.lk r ≠ (k, []) := fun c => by have := XW r k hk; rw [decide_eq_true c, decide_eq_false h] at this; cases this
theorem need_sign {r : List TN} {c : Int} (h : isS r c = true) : R.lk r = (4, [c]) := of_decide_eq_true ((XV r c).trans h)
theorem need_sign' {r : List TN} {c : Int} (h : isS r c = false) : R.lk r ≠ (4, [c]) := fun x => by have := XV r c; rw [decide_eq_true x, h] at this; cases this
theorem keys_l (w : World) (b G : Nat) (r : List TN) (m : Nat) (d : Int) (h : Rd w b G r m d) (hr : Ends r) :
  Calls Tryz.prog 70 #[.pointer (some ⟨b, 0, none⟩)] w (KRES b G m d r.length w (keysL r)) := by
 have CG := zx (fun W => ZW ⟨#[37]⟩ W)
 have CS := zx (fun W (bW : Below w.heap.size w W) => sees_l W b G r m d (h.later bW) hr 4 [37] (yJ (by decide)))
 rw [XV] at CS
 have e37 : strOfNums [37] = ⟨#[37]⟩ := rfl
 rw [e37] at CS
 have hbl := h.lt
 have hGl := h.ltG
 cases hs : isS r 37 with
 | false =>
  rw [hs] at CS
  have FIN : Hid (keysL r = .inr ([], r)) := by show _ = _; unfold keysL; rw [hs]; rfl
  have HST := zx (And.intro h hr)
  clear h hr hs e37
  go_enter Tryz.func70, Tryz.ntmps70
  go_wp2_with fail
  refine (zy CG _).mono ?_
  rintro e w1 ⟨rfl, b1⟩
  clear CG
  go_wp2_with fail
  refine (zy CS _ b1).mono ?_
  rintro e w2 ⟨rfl, b2⟩
  clear CS
  have B2 := zw b1 b2
  go_wp2_with fail
  go_ret
  exact .inl ⟨none, 0, [], r, zy FIN, rfl, ⟨rfl, Nat.le_refl _, Nat.zero_le _, (fun k hk => by cases hk), fun j u hu => by simp at hu⟩, by simp, (zy HST).2, Nat.le_refl _, (zy HST).1.later B2, Bu.of B2⟩
 | true =>
  rw [hs] at CS
  have E1 := hr.sign hs
  have hrt := qz hr.ne
  have CT := zx (fun W (bW : Below w.heap.size w W) => vu W b G r m d (h.later bW) hr.ne E1.ne)
  have ST : Hid (keysL r = kK r.length [] r.tail) := by show _ = _; unfold keysL; rw [hs]; rfl
  have HE1 := zx E1
  have e0 : strOfNums [] = ⟨#[]⟩ := rfl
  have e59 : strOfNums [59] = ⟨#[59]⟩ := rfl
  have CG2 := zx (fun W => ZW ⟨#[59]⟩ W)
  clear h hr hs e37 E1
  go_enter Tryz.func70, Tryz.ntmps70
  go_wp2_with fail
  refine (zy CG _).mono ?_
  rintro e w1 ⟨rfl, b1⟩
  clear CG
  go_wp2_with fail
  refine (zy CS _ b1).mono ?_
  rintro e w2 ⟨rfl, b2⟩
  clear CS
  have B2 := zw b1 b2
  go_wp2_with fail
  refine (zy CT _ B2).mono ?_
  rintro e w3 ⟨v3, rfl, tv3, rd3, bu3⟩
  clear CT tv3
  have BU3 := zx ((Bu.of B2).then bu3)
  have RD3 := zx rd3
  clear bu3 rd3
  go_wp2_with fail
  go_loopw [3] (fun v wr => Hid (∃ (acc : List (List Int)) (rr : List TN) (f : Nat), keysL r = kK f acc rr ∧ rr.length ≤ f ∧ rr.length ≤ r.length ∧ acc.length ≤ 8 ∧ (∀ k ∈ acc, U.zq k) ∧ Ends rr ∧ Rd wr b G rr m d ∧ wr.ownsRow w.heap.size 9 1 v acc.length (strC acc) ∧ Bu b w wr)) (fun _ wr => leftN b wr)
  case atStart => exact ⟨[], r.tail, r.length, zy ST, by omega, by omega, by simp, (fun k hk => by cases hk), zy HE1, zy RD3, World.ownsRow_nil _ _ _ _, zy BU3⟩
  case round =>
   obtain ⟨acc, rr, f, hS, hff, hrl, ha8, hab, hE, rd, own, bu⟩ := zy hrel
   obtain ⟨q5, c5, rfl⟩ := xo own
   have hpos : 1 ≤ rr.length := by cases hq : rr with | nil => exact absurd hq hE.ne | cons x y => simp
   obtain ⟨f', rfl⟩ : ∃ f', f = f' + 1 := ⟨f - 1, by omega⟩
   have HS := zx hS
   have HRD := zx rd
   have HE := zx hE
   have HBU := zx bu
   have HOW := zx own
   have HAB := zx hab
   have hbr := rd.lt
   have CS := zx (sees_l wr b G rr m d rd hE 1 [] (fun z hz => by cases hz))
   rw [XW rr 1 (by decide), e0] at CS
   clear ST RD3 BU3 HE1 hrel
   by_cases h1 : kd rr = 1
   ·rw [decide_eq_true h1] at CS
    by_cases h8 : acc.length = 8
    ·have FIN : Hid (keysL r = .inl (pl rr, 7)) := hS.trans (keysF_many h1 h8)
     have hrt1 := qz hE.ne
     have E2 := hE.tail (by rw [h1]; decide)
     have CN := zx (fun W (bW : Below wr.heap.size wr W) => Xy W b G rr m d (rd.later bW) hE E2.ne 1 [] (fun z hz => by cases hz) (need_kind (by decide) h1))
     rw [e0] at CN
     have HE2 := zx E2
     have HTB := zx hE.bytes
     have a0 : ((acc.length : Int) == 0) = false := beq_eq_false_iff_ne.2 (by omega)
     have n8 : ((acc.length : Int) == 8) = true := by rw [h8]; rfl
     have HN8 := zx h8
     clear h1 h8 hE rd hS E2 own hab bu
     go_wp2_with fail
     refine (zy CS).mono ?_
     rintro e w4 ⟨rfl, b4⟩
     clear CS
     go_wp2_with fail
     refine (zy CN _ b4).mono ?_
     rintro e w5 ⟨v5, rfl, ⟨a3, c3, rfl, -, -⟩, rd5, bu5⟩
     clear CN
     have BU5 := zx (((zy HBU).then (Bu.of (b4))).then bu5)
     have HO := vw (ju b4 (zy HOW)) bu5 hbl
     have RD5 := zx rd5
     have hs5 : w.heap.size ≤ w5.heap.size := by have := (zy BU5).size; omega
     clear bu5 rd5
     go_wp2_with fail
     exact ⟨rfl, .inr ⟨pl rr, 7, zy FIN, rfl, (zy BU5).alloc _⟩⟩
    ·have STEP : Hid (keysL r = kK f' (acc ++ [tx rr]) rr.tail) := hS.trans (keysF_more h1 h8)
     have hrt1 := qz hE.ne
     have E2 := hE.tail (by rw [h1]; decide)
     have CN := zx (fun W (bW : Below wr.heap.size wr W) => Xy W b G rr m d (rd.later bW) hE E2.ne 1 [] (fun z hz => by cases hz) (need_kind (by decide) h1))
     rw [e0] at CN
     have HE2 := zx E2
     have HTB := zx hE.bytes
     by_cases hz : acc.length = 0
     ·have a0 : ((acc.length : Int) == 0) = true := by rw [hz]; rfl
      clear hz
      clear h1 hE rd hS E2 own hab bu CS
      have b4 : Below wr.heap.size wr wr := Below.refl _ _
      go_wp2_with fail
      refine (zy CN _ b4).mono ?_
      rintro e w5 ⟨v5, rfl, ⟨a3, c3, rfl, -, -⟩, rd5, bu5⟩
      clear CN
      have BU5 := zx (((zy HBU).then (Bu.of (b4))).then bu5)
      have HO := vw (ju b4 (zy HOW)) bu5 hbl
      have RD5 := zx rd5
      have hs5 : w.heap.size ≤ w5.heap.size := by have := (zy BU5).size; omega
      clear bu5 rd5
      have n8 : ((acc.length : Int) == 8) = false := beq_eq_false_iff_ne.2 (by omega)
      obtain ⟨ti, hi0, hz0, hz1, hz2⟩ := info_parts str_info
      generalize hTX : strOfNums (tx rr) = TX at *
      have HTX := zx hTX
      clear hTX
      go_wp2_with (at_builtin; refine wpList_append_lies _ rfl _ _ 23 rfl w.heap.size 9 ti _ 1 16 Tryz.underlying23 hi0 hz0 hz1 hz2 rfl (by omega) _ _ _ rfl ((HO.alloc _).alloc _) ⟨w5.heap.size + 1, 0, none⟩ 1 1 [.string TX] rfl rfl (new_str _ _ _ (by simp)) (by simp [Value.oneCell']) (by omega) (by unfold maxLen; omega) (by omega) (by simp; omega) (w5.heap.size + 2) (by simp) ?_; intro gg cap1 w6 hown1 hgrow hat hlt1)
      have RDA := (zy RD5).later (Below.new1 (w := w5) (.cells #[.int .i64 (kd rr), .string TX, .slice a3 (rg rr).length c3, .int .i64 (pl rr : Nat)] 124))
      have RD6 := zx (Rd.grown RDA (HO.alloc _) (by decide) hbl hGl hgrow)
      have BU6 := zx ((((zy BU5).alloc _).alloc _).grow hgrow (fun k hk => (HO.lt k hk).1))
      have OW6 : Hid (w6.ownsRow w.heap.size 9 1 (.slice (some ⟨gg, 0, none⟩) (acc.length + 1) cap1) (acc ++ [tx rr]).length (strC (acc ++ [tx rr]))) := by
       show World.ownsRow _ _ _ _ _ _ _
       rw [← strC_snoc, List.length_append, zy HTX]
       exact hown1
      clear hgrow hat hlt1 hown1 HO RDA
      (try go_wp2_with fail)
      go_roundw
      case rel =>
       refine ⟨acc ++ [tx rr], rr.tail, f', zy STEP, by omega, by omega, by rw [List.length_append, List.length_singleton]; omega, ?_, zy HE2, zy RD6, zy OW6, zy BU6⟩
       intro k hk
       rcases List.mem_append.1 hk with hk | hk
       ·exact zy HAB k hk
       ·rw [List.mem_singleton.1 hk]; exact zy HTB
      case measure => rw [(zy RD6).left, (zy HRD).left]; exact hrt1
     ·have a0 : ((acc.length : Int) == 0) = false := beq_eq_false_iff_ne.2 (by omega)
      clear h1 hE rd hS E2 own hab bu
      go_wp2_with fail
      refine (zy CS).mono ?_
      rintro e w4 ⟨rfl, b4⟩
      clear CS
      go_wp2_with fail
      refine (zy CN _ b4).mono ?_
      rintro e w5 ⟨v5, rfl, ⟨a3, c3, rfl, -, -⟩, rd5, bu5⟩
      clear CN
      have BU5 := zx (((zy HBU).then (Bu.of (b4))).then bu5)
      have HO := vw (ju b4 (zy HOW)) bu5 hbl
      have RD5 := zx rd5
      have hs5 : w.heap.size ≤ w5.heap.size := by have := (zy BU5).size; omega
      clear bu5 rd5
      have n8 : ((acc.length : Int) == 8) = false := beq_eq_false_iff_ne.2 (by omega)
      obtain ⟨ti, hi0, hz0, hz1, hz2⟩ := info_parts str_info
      generalize hTX : strOfNums (tx rr) = TX at *
      have HTX := zx hTX
      clear hTX
      go_wp2_with (at_builtin; refine wpList_append_lies _ rfl _ _ 23 rfl w.heap.size 9 ti _ 1 16 Tryz.underlying23 hi0 hz0 hz1 hz2 rfl (by omega) _ _ _ rfl ((HO.alloc _).alloc _) ⟨w5.heap.size + 1, 0, none⟩ 1 1 [.string TX] rfl rfl (new_str _ _ _ (by simp)) (by simp [Value.oneCell']) (by omega) (by unfold maxLen; omega) (by omega) (by simp; omega) (w5.heap.size + 2) (by simp) ?_; intro gg cap1 w6 hown1 hgrow hat hlt1)
      have RDA := (zy RD5).later (Below.new1 (w := w5) (.cells #[.int .i64 (kd rr), .string TX, .slice a3 (rg rr).length c3, .int .i64 (pl rr : Nat)] 124))
      have RD6 := zx (Rd.grown RDA (HO.alloc _) (by decide) hbl hGl hgrow)
      have BU6 := zx ((((zy BU5).alloc _).alloc _).grow hgrow (fun k hk => (HO.lt k hk).1))
      have OW6 : Hid (w6.ownsRow w.heap.size 9 1 (.slice (some ⟨gg, 0, none⟩) (acc.length + 1) cap1) (acc ++ [tx rr]).length (strC (acc ++ [tx rr]))) := by
       show World.ownsRow _ _ _ _ _ _ _
       rw [← strC_snoc, List.length_append, zy HTX]
       exact hown1
      clear hgrow hat hlt1 hown1 HO RDA
      (try go_wp2_with fail)
      go_roundw
      case rel =>
       refine ⟨acc ++ [tx rr], rr.tail, f', zy STEP, by omega, by omega, by rw [List.length_append, List.length_singleton]; omega, ?_, zy HE2, zy RD6, zy OW6, zy BU6⟩
       intro k hk
       rcases List.mem_append.1 hk with hk | hk
       ·exact zy HAB k hk
       ·rw [List.mem_singleton.1 hk]; exact zy HTB
      case measure => rw [(zy RD6).left, (zy HRD).left]; exact hrt1
   ·rw [decide_eq_false h1] at CS
    by_cases hz : acc = []
    ·subst hz
     have FIN : Hid (keysL r = .inl (pl rr, 3)) := hS.trans (keysF_none h1)
     have CN := zx (fun W (bW : Below wr.heap.size wr W) => need_no W b G rr m d (rd.later bW) hE 1 [] (fun z hz => by cases hz) (need_kind' (by decide) h1))
     rw [e0] at CN
     clear h1 hE rd hS own hab bu CS
     simp only [List.length_nil] at *
     go_wp2_with fail
     refine (zy CN _ (Below.refl _ _)).mono ?_
     rintro e w5 ⟨rfl, bu5⟩
     clear CN
     unfold xj
     go_wp2_with fail
     exact ⟨rfl, .inr ⟨pl rr, 3, zy FIN, rfl, (zy HBU).then bu5⟩⟩
    ·have hz' : acc.length ≠ 0 := fun c => hz (List.eq_nil_of_length_eq_zero c)
     have a0 : ((acc.length : Int) == 0) = false := beq_eq_false_iff_ne.2 (by omega)
     cases hs : isS rr 59 with
     | true =>
      have FIN : Hid (keysL r = .inr (acc, rr.tail)) := hS.trans (keysF_end h1 hz hs)
      have hrt1 := qz hE.ne
      have E2 := hE.sign hs
      have CN := zx (fun W (bW : Below wr.heap.size wr W) => Xy W b G rr m d (rd.later bW) hE E2.ne 4 [59] (yJ (by decide)) (need_sign hs))
      rw [e59] at CN
      have HE2 := zx E2
      clear h1 hE rd hS own hab bu hz hs E2
      go_wp2_with fail
      refine (zy CS).mono ?_
      rintro e w4 ⟨rfl, b4⟩
      clear CS
      go_wp2_with fail
      refine (zy CG2 _).mono ?_
      rintro e w5 ⟨rfl, b5⟩
      clear CG2
      have B5 := zw b4 b5
      go_wp2_with fail
      refine (zy CN _ B5).mono ?_
      rintro e w6 ⟨v6, rfl, tv6, rd6, bu6⟩
      clear CN tv6
      have OW6 := zx (vw (ju B5 (zy HOW)) bu6 hbl)
      go_wp2_with fail
      go_ret
      exact .inl ⟨q5, c5, acc, rr.tail, zy FIN, rfl, own_ss (zy OW6) rfl (zy HAB), ha8, zy HE2, by omega, rd6, ((zy HBU).then (Bu.of B5)).then bu6⟩
     | false =>
      have FIN : Hid (keysL r = .inl (pl rr, 3)) := hS.trans (keysF_bad h1 hz hs)
      have CN := zx (fun W (bW : Below wr.heap.size wr W) => need_no W b G rr m d (rd.later bW) hE 4 [59] (yJ (by decide)) (need_sign' hs))
      rw [e59] at CN
      clear h1 hE rd hS own hab bu hz hs
      go_wp2_with fail
      refine (zy CS).mono ?_
      rintro e w4 ⟨rfl, b4⟩
      clear CS
      go_wp2_with fail
      refine (zy CG2 _).mono ?_
      rintro e w5 ⟨rfl, b5⟩
      clear CG2
      have B5 := zw b4 b5
      go_wp2_with fail
      refine (zy CN _ B5).mono ?_
      rintro e w6 ⟨rfl, bu6⟩
      clear CN
      unfold xj
      go_wp2_with fail
      exact ⟨rfl, .inr ⟨pl rr, 3, zy FIN, rfl, ((zy HBU).then (Bu.of B5)).then bu6⟩⟩
theorem Yx {W : World} {g : Nat} {x0 x1 x2 x3 x4 x5 x6 x7 x8 : Value} {t : TypeId} (h : W.heap[g]? = some (.cells #[x0, x1, x2, x3, x4, x5, x6, x7, x8] t)) :
  (W.cell? ⟨g, 0, none⟩ = some x0 ∧ W.cell? ⟨g, 1, none⟩ = some x1 ∧ W.cell? ⟨g, 2, none⟩ = some x2 ∧ W.cell? ⟨g, 3, none⟩ = some x3 ∧ W.cell? ⟨g, 4, none⟩ = some x4 ∧ W.cell? ⟨g, 5, none⟩ = some x5 ∧ W.cell? ⟨g, 6, none⟩ = some x6 ∧ W.cell? ⟨g, 7, none⟩ = some x7 ∧ W.cell? ⟨g, 8, none⟩ = some x8) ∧
  (W.frozen? ⟨g, 0, none⟩ = false ∧ W.frozen? ⟨g, 1, none⟩ = false ∧ W.frozen? ⟨g, 2, none⟩ = false ∧ W.frozen? ⟨g, 3, none⟩ = false ∧ W.frozen? ⟨g, 4, none⟩ = false ∧ W.frozen? ⟨g, 5, none⟩ = false ∧ W.frozen? ⟨g, 6, none⟩ = false ∧ W.frozen? ⟨g, 7, none⟩ = false ∧ W.frozen? ⟨g, 8, none⟩ = false) := by
 refine ⟨⟨?_, ?_, ?_, ?_, ?_, ?_, ?_, ?_, ?_⟩, ?_, ?_, ?_, ?_, ?_, ?_, ?_, ?_, ?_⟩ <;> simp [World.cell?, World.frozen?, h]
theorem set9_at {W : World} {g : Nat} {y0 y1 y2 y3 y4 y5 y6 y7 y8 : Value} {t : TypeId} (h : W.heap[g]? = some (.cells #[y0, y1, y2, y3, y4, y5, y6, y7, y8] t)) (x0 x1 x2 x3 x4 x5 x6 x7 x8 : Value) :
  ((((((((((((((((((W).setCell ⟨g, 0, none⟩ x0)).setCell ⟨g, 1, none⟩ x1)).setCell ⟨g, 2, none⟩ x2)).setCell ⟨g, 3, none⟩ x3)).setCell ⟨g, 4, none⟩ x4)).setCell ⟨g, 5, none⟩ x5)).setCell ⟨g, 6, none⟩ x6)).setCell ⟨g, 7, none⟩ x7)).setCell ⟨g, 8, none⟩ x8).heap[g]? = some (.cells #[x0, x1, x2, x3, x4, x5, x6, x7, x8] t) := by
 have h0 := heap_setCell_same W g 0 _ t x0 h
 have h1 := heap_setCell_same _ g 1 _ t x1 h0
 have h2 := heap_setCell_same _ g 2 _ t x2 h1
 have h3 := heap_setCell_same _ g 3 _ t x3 h2
 have h4 := heap_setCell_same _ g 4 _ t x4 h3
 have h5 := heap_setCell_same _ g 5 _ t x5 h4
 have h6 := heap_setCell_same _ g 6 _ t x6 h5
 have h7 := heap_setCell_same _ g 7 _ t x7 h6
 have h8 := heap_setCell_same _ g 8 _ t x8 h7
 simpa using h8
theorem set9_other {W : World} {g k : Nat} (hn : k ≠ g) (x0 x1 x2 x3 x4 x5 x6 x7 x8 : Value) : ((((((((((((((((((W).setCell ⟨g, 0, none⟩ x0)).setCell ⟨g, 1, none⟩ x1)).setCell ⟨g, 2, none⟩ x2)).setCell ⟨g, 3, none⟩ x3)).setCell ⟨g, 4, none⟩ x4)).setCell ⟨g, 5, none⟩ x5)).setCell ⟨g, 6, none⟩ x6)).setCell ⟨g, 7, none⟩ x7)).setCell ⟨g, 8, none⟩ x8).heap[k]? = W.heap[k]? := by
 simp only [Below.heap_setCell _ _ _ k (show k ≠ (⟨g, _, none⟩ : Addr).block from hn)]
theorem Bu.set9 {b : Nat} {w W : World} (h : Bu b w W) {g : Nat} (hg : w.heap.size ≤ g) (x0 x1 x2 x3 x4 x5 x6 x7 x8 : Value) : Bu b w ((((((((((((((((((W).setCell ⟨g, 0, none⟩ x0)).setCell ⟨g, 1, none⟩ x1)).setCell ⟨g, 2, none⟩ x2)).setCell ⟨g, 3, none⟩ x3)).setCell ⟨g, 4, none⟩ x4)).setCell ⟨g, 5, none⟩ x5)).setCell ⟨g, 6, none⟩ x6)).setCell ⟨g, 7, none⟩ x7)).setCell ⟨g, 8, none⟩ x8) :=
 (((((((((h.setTop hg _ _).setTop hg _ _).setTop hg _ _).setTop hg _ _).setTop hg _ _).setTop hg _ _).setTop hg _ _).setTop hg _ _).setTop hg _ _)
theorem res_rule {fn : Func} {p : Tmp} (h : fn.results = #[.cell p 42]) {tmps : Array Value} {g : Nat} (hp : tmps.getD p undef = .pointer (some ⟨g, 0, none⟩)) {X : World} {x0 x1 x2 x3 x4 x5 x6 x7 x8 : Value} (hX : X.heap[g]? = some (.cells #[x0, x1, x2, x3, x4, x5, x6, x7, x8] 42)) :
  (results fn tmps).run Tryz.prog X = .ok (.agg #[x0, x1, x2, x3, x4, x5, x6, x7, x8]) X := by
 obtain ⟨k0, k1, k2, k3, k4, k5, k6, k7, k8⟩ := (Yx hX).1
 have hp2 : tmps[p]?.getD undef = .pointer (some ⟨g, 0, none⟩) := by rw [← hp]; simp [Array.getD_eq_getD_getElem?]
 simp only [results, h]
 simp [hp2, go_sem, k0, k1, k2, k3, k4, k5, k6, k7, k8]
def RuleV (D : Nat → Prop) (w : World) (v : Value) (u : RU) : Prop :=
 ∃ x0 x1 x2 x3 x4 a c, v = .agg #[.string (strOfNums u.1), .int .i64 u.2.1, x0, x1, x2, x3, x4, .slice a u.2.2.2.1.length c, .int .i64 u.2.2.2.2] ∧ U.zq u.1 ∧ zW u.2.1 ∧ PartE D w (.agg #[x0, x1, x2, x3, x4]) u.2.2.1 ∧ Rs w a u.2.2.2.1.length c u.2.2.2.1 ∧ Ty w a ∧ zW u.2.2.2.2
theorem RuleV.kept {D D' : Nat → Prop} {w X : World} {v : Value} {u : RU} (h : RuleV D w v u) (k : ∀ g, D g → D' g ∧ X.heap[g]? = w.heap[g]?) (kr : KR w X) : RuleV D' X v u := by
 obtain ⟨x0, x1, x2, x3, x4, a, c, e, h1, h2, h3, h4, h5, h6⟩ := h
 obtain ⟨h4', h5'⟩ := vJ kr h4 h5
 exact ⟨x0, x1, x2, x3, x4, a, c, e, h1, h2, h3.kept k kr, h4', h5', h6⟩
theorem rule_bad1 {n k1 : Nat} {r r1 : List TN} (hM : jv r = (k1, r1)) (h : kd r1 ≠ 0) : kq n r = .inl (pl r1, 3) := by
 unfold kq; simp only [hM]; rw [if_neg h]
theorem rule_many {n k1 : Nat} {r r1 : List TN} (hM : jv r = (k1, r1)) (h : kd r1 = 0) (hn : n = 16) : kq n r = .inl (pl r1, 7) := by
 unfold kq; simp only [hM]; rw [if_pos h, if_pos hn]
theorem rule_bad2 {n k1 : Nat} {r r1 : List TN} (hM : jv r = (k1, r1)) (h : kd r1 = 0) (hn : n ≠ 16) (hs : isS r1.tail 61 = false) : kq n r = .inl (pl r1.tail, 3) := by
 unfold kq; simp only [hM]; rw [if_pos h, if_neg hn, hs]; rfl
theorem rule_bad3 {n k1 : Nat} {r r1 : List TN} {e : Nat × Int} (hM : jv r = (k1, r1)) (h : kd r1 = 0) (hn : n ≠ 16) (hs : isS r1.tail 61 = true) (ha : altL (jw 12) r1.tail.tail = .inl e) : kq n r = .inl e := by
 unfold kq; simp only [hM]; rw [if_pos h, if_neg hn, if_pos hs, ha]
theorem rule_bad4 {n k1 : Nat} {r r1 r5 : List TN} {p : PT} {e : Nat × Int} (hM : jv r = (k1, r1)) (h : kd r1 = 0) (hn : n ≠ 16) (hs : isS r1.tail 61 = true) (ha : altL (jw 12) r1.tail.tail = .inr (p, r5)) (hN : notL r5 = .inl e) : kq n r = .inl e := by
 unfold kq; simp only [hM]; rw [if_pos h, if_neg hn, if_pos hs, ha]; simp only; rw [hN]
theorem rule_bad5 {n k1 : Nat} {r r1 r5 r6 : List TN} {p : PT} {N : List (Int × Int)} (hM : jv r = (k1, r1)) (h : kd r1 = 0) (hn : n ≠ 16) (hs : isS r1.tail 61 = true) (ha : altL (jw 12) r1.tail.tail = .inr (p, r5)) (hN : notL r5 = .inr (N, r6)) (h59 : isS r6 59 = false) : kq n r = .inl (pl r6, 3) := by
 unfold kq; simp only [hM]; rw [if_pos h, if_neg hn, if_pos hs, ha]; simp only; rw [hN]; simp only; rw [h59]; rfl
theorem rule_good {n k1 : Nat} {r r1 r5 r6 : List TN} {p : PT} {N : List (Int × Int)} (hM : jv r = (k1, r1)) (h : kd r1 = 0) (hn : n ≠ 16) (hs : isS r1.tail 61 = true) (ha : altL (jw 12) r1.tail.tail = .inr (p, r5)) (hN : notL r5 = .inr (N, r6)) (h59 : isS r6 59 = true) : kq n r = .inr ((tx r1, (k1 : Int), p, N, ((pl r1 : Nat) : Int)), r6.tail) := by
 unfold kq; simp only [hM]; rw [if_pos h, if_neg hn, if_pos hs, ha]; simp only; rw [hN]; simp only; rw [h59]; rfl
def URES (b G m : Nat) (d : Int) (n : Nat) (w : World) (x : Res RU) (e : Ending) (w' : World) : Prop :=
 (∃ v u r', x = .inr (u, r') ∧ e = .returned v ∧ RuleV (New w w') w' v u ∧ Ends r' ∧ r'.length < n ∧ Rd w' b G r' m d ∧ Bu b w w') ∨ (∃ q why, x = .inl (q, why) ∧ e = xj q why ∧ Bu b w w')
theorem rule_l (w : World) (b G : Nat) (r : List TN) (m n : Nat) (hn : n ≤ 16) (h : Rd w b G r m (dp 12)) (hr : Ends r) (hl : r.length ≤ 1000) (hm : Mq w m) :
  Calls Tryz.prog 72 #[.pointer (some ⟨b, 0, none⟩), .int .i64 (n : Int)] w (URES b G m (dp 12) r.length w (kq n r)) := by
 have hbl := h.lt
 have hGl := h.ltG
 have HB : ∀ o, Below w.heap.size w (w.alloc o) := fun o => Below.new1 o
 have CM := zx (fun W (bW : Below w.heap.size w W) => marks_l W b G r m (dp 12) (h.later bW) hr)
 have HST := zx (And.intro h.cells hm)
 have CA := zx alt_c
 have CNT := zx (fun W r1 (k : Rd W b G r1 m (dp 12)) (e : Ends r1) => not_l W b G r1 m (dp 12) k e)
 have CY := zx (fun W r1 (k : Rd W b G r1 m (dp 12)) (e : Ends r1) (t : r1.tail ≠ []) k0 x hx hk => Xy W b G r1 m (dp 12) k e t k0 x hx hk)
 have CX := zx (fun W r1 (k : Rd W b G r1 m (dp 12)) (e : Ends r1) k0 x hx hk => need_no W b G r1 m (dp 12) k e k0 x hx hk)
 have CG1 := zx (fun W => ZW ⟨#[61]⟩ W)
 have CG2 := zx (fun W => ZW ⟨#[59]⟩ W)
 have e0 : strOfNums [] = ⟨#[]⟩ := rfl
 have e61 : strOfNums [61] = ⟨#[61]⟩ := rfl
 have e59 : strOfNums [59] = ⟨#[59]⟩ := rfl
 have NB : U.zq [] := fun z hz => by cases hz
 generalize hD0 : dp 12 = d0 at *
 have HD0 := zx hD0
 generalize hM : jv r = MM at *
 obtain ⟨k1, r1⟩ := MM
 have HM := zx hM
 simp only at CM
 clear h hr hm hD0 hM
 go_enter Tryz.func72, Tryz.ntmps72
 go_wp2_with fail
 refine (zy CM _ (HB _)).mono ?_
 rintro e w1 ⟨rfl, hm63, E1, hl1, rd1, bu1⟩
 clear CM
 have BU1 := zx ((Bu.of (HB _)).then bu1)
 have OUT1 := bu1.at (heap_alloc_new w _) (show w.heap.size ≠ b by omega)
 clear bu1
 by_cases h1 : kd r1 = 0
 case neg =>
  have FIN := zx (rule_bad1 (n := n) (zy HM) h1)
  have CN := zx (zy CX w1 r1 rd1 E1 0 [] NB (need_kind' (by decide) h1))
  rw [e0] at CN
  clear h1 CA CNT CY CX CG1 CG2 OUT1 rd1 E1 e0 e61 e59
  go_wp2_with fail
  refine (zy CN).mono ?_
  rintro e w2 ⟨rfl, bu2⟩
  clear CN
  unfold xj
  go_wp2_with fail
  exact ⟨rfl, .inr ⟨_, _, zy FIN, rfl, (zy BU1).then bu2⟩⟩
 have E2 := E1.tail (by rw [h1]; decide)
 have hr1 := qz E1.ne
 have CN := zx (zy CY w1 r1 rd1 E1 E2.ne 0 [] NB (need_kind (by decide) h1))
 rw [e0] at CN
 have HNB := zx E1.bytes
 have HPL := zx (vj E1.pl)
 have H1 := zx h1
 clear h1 rd1 E1
 go_wp2_with fail
 refine (zy CN).mono ?_
 rintro e w2 ⟨v2, rfl, ⟨a2, c2, rfl, -, -⟩, rd2, bu2⟩
 clear CN
 have BU2 := zx ((zy BU1).then bu2)
 have OUT2 := bu2.at OUT1 (show w.heap.size ≠ b by omega)
 clear OUT1 BU1 bu2
 by_cases hn16 : n = 16
 case pos =>
  have FIN := zx (rule_many (zy HM) (zy H1) hn16)
  have n16 : ((n : Int) == 16) = true := by rw [hn16]; rfl
  clear CA CNT CY CX CG1 CG2 OUT2 rd2 E2 e0 e61 e59 hn16
  go_wp2_with fail
  exact ⟨rfl, .inr ⟨_, _, zy FIN, rfl, (zy BU2).alloc _⟩⟩
 have n16 : ((n : Int) == 16) = false := beq_eq_false_iff_ne.2 (by omega)
 have HN16 := zx hn16
 have HB2 : ∀ o, Below w2.heap.size w2 (w2.alloc o) := fun o => Below.new1 o
 have hb2 := rd2.lt
 have s2 : w.heap.size < w2.heap.size := (Array.getElem?_eq_some_iff.1 OUT2).1
 clear hn16
 go_wp2_with fail
 refine (zy CG1 _).mono ?_
 rintro e w3 ⟨rfl, b3⟩
 clear CG1
 have T3 := zV b3
 have B3 := zw (HB2 _) b3
 have rd3 := rd2.later B3
 have BU3 := zx ((zy BU2).then (Bu.of B3))
 have OUT3 := (B3.block _ s2).trans OUT2
 clear rd2 BU2 OUT2 b3
 cases h61 : isS r1.tail 61 with
 | false =>
  have FIN := zx (rule_bad2 (n := n) (zy HM) (zy H1) (zy HN16) h61)
  have CN := zx (zy CX w3 r1.tail rd3 E2 4 [61] (yJ (by decide)) (need_sign' h61))
  rw [e61] at CN
  clear h61 CA CNT CY CX CG2 OUT3 rd3 E2 e0 e61 e59 T3
  go_wp2_with fail
  refine (zy CN).mono ?_
  rintro e w4 ⟨rfl, bu4⟩
  clear CN
  unfold xj
  go_wp2_with fail
  exact ⟨rfl, .inr ⟨_, _, zy FIN, rfl, (zy BU3).then bu4⟩⟩
 | true =>
  have E3 := E2.sign h61
  have hr2 := qz E2.ne
  have CN := zx (zy CY w3 r1.tail rd3 E2 E3.ne 4 [61] (yJ (by decide)) (need_sign h61))
  rw [e61] at CN
  have H61 := zx h61
  clear h61 rd3 E2
  go_wp2_with fail
  refine (zy CN).mono ?_
  rintro e w4 ⟨v4, rfl, tv4, rd4, bu4⟩
  clear CN tv4
  have BU4 := zx ((zy BU3).then bu4)
  have OUT4 := bu4.at OUT3 (show w.heap.size ≠ b by omega)
  have T4 := bu4.at T3 (show w2.heap.size ≠ b by omega)
  have s4 : w2.heap.size < w4.heap.size := (Array.getElem?_eq_some_iff.1 T4).1
  have MQ4 : Mq w4 m := (zy HST).2.bu (zy BU4) (zy HST).1.choose_spec.1
  have CAL := zx (zy CA w4 b G r1.tail.tail m (by rw [zy HD0]; exact rd4) E3 (by omega) MQ4)
  rw [zy HD0] at CAL
  clear OUT3 T3 BU3 bu4 rd4 MQ4 CA
  go_wp2_with fail
  refine (zy CAL).mono ?_
  clear CAL
  rintro e w5 (⟨v5, p5, r5, eg, rfl, pe5, E5, hl5, rd5, bu5⟩ | ⟨q5, y5, eg, rfl, bu5⟩)
  case inr =>
   have FIN := zx (rule_bad3 (n := n) (zy HM) (zy H1) (zy HN16) (zy H61) eg)
   clear CNT CY CX CG2 OUT4 T4 E3 e0 e61 e59 eg
   unfold xj
   go_wp2_with fail
   exact ⟨rfl, .inr ⟨_, _, zy FIN, rfl, (zy BU4).then bu5⟩⟩
  have HEG := zx eg
  have BU5 := zx ((zy BU4).then bu5)
  have OUT5 := bu5.at OUT4 (show w.heap.size ≠ b by omega)
  have T5 := bu5.at T4 (show w2.heap.size ≠ b by omega)
  have s5 := bu5.size
  have PE5 := zx pe5
  obtain ⟨x1, x2, x3, x4, x5, x6, x7, x8, x9, rfl, -⟩ := pe5.form
  have HB5 : ∀ o, Below w5.heap.size w5 (w5.alloc o) := fun o => Below.new1 o
  have rdA := rd5.later (HB5 (.cells #[.int .i64 x1, .string x2, .slice x3 x4 x5, .slice x6 x7 x8, .int .i64 x9] 40))
  have CNN := zx (zy CNT _ r5 rdA E5)
  have OUTA := zK OUT5 (.cells #[.int .i64 x1, .string x2, .slice x3 x4 x5, .slice x6 x7 x8, .int .i64 x9] 40)
  have TA := zK T5 (.cells #[.int .i64 x1, .string x2, .slice x3 x4 x5, .slice x6 x7 x8, .int .i64 x9] 40)
  have PA := heap_alloc_new w5 (.cells #[.int .i64 x1, .string x2, .slice x3 x4 x5, .slice x6 x7 x8, .int .i64 x9] 40)
  have hrc5 := zx rd5.cells
  have BUA := zx ((zy BU5).alloc (.cells #[.int .i64 x1, .string x2, .slice x3 x4 x5, .slice x6 x7 x8, .int .i64 x9] 40))
  have hb5 := rd5.lt
  clear pe5 rd5 bu5 eg OUT4 T4 OUT5 T5 BU4 BU5 rdA CNT
  go_wp2_with fail
  refine (zy CNN).mono ?_
  clear CNN
  rintro e w6 (⟨aN, cN, N, r6, en, rfl, hrs, hys, E6, hl6, rd6, bu6⟩ | ⟨q6, y6, en, rfl, bu6⟩)
  case inr =>
   have FIN := zx (rule_bad4 (n := n) (zy HM) (zy H1) (zy HN16) (zy H61) (zy HEG) en)
   clear CY CX CG2 OUTA TA PA E3 e0 e61 e59 en
   unfold xj
   go_wp2_with fail
   exact ⟨rfl, .inr ⟨_, _, zy FIN, rfl, (zy BUA).then bu6⟩⟩
  have HEN := zx en
  have BU6 := zx ((zy BUA).then bu6)
  have OUT6 := bu6.at OUTA (show w.heap.size ≠ b by omega)
  have T6 := bu6.at TA (show w2.heap.size ≠ b by omega)
  have P6 := bu6.at PA (show w5.heap.size ≠ b by omega)
  have s6 := bu6.size
  rw [World.size_alloc] at s6
  have HRS := zx (And.intro hrs hys)
  have HBU6 := zx bu6
  have hb6 := rd6.lt
  clear OUTA TA PA BUA bu6 en hrs hys
  go_wp2_with fail
  refine (zy CG2 _).mono ?_
  rintro e w7 ⟨rfl, b7⟩
  clear CG2
  have rd7 := rd6.later b7
  have BU7 := zx ((zy BU6).then (Bu.of b7))
  have OUT7 := (b7.block _ (Array.getElem?_eq_some_iff.1 OUT6).1).trans OUT6
  have T7 := (b7.block _ (Array.getElem?_eq_some_iff.1 T6).1).trans T6
  have P7 := (b7.block _ (Array.getElem?_eq_some_iff.1 P6).1).trans P6
  have hrc6 := zx rd6.cells
  clear OUT6 T6 P6 BU6 rd6
  cases h59 : isS r6 59 with
  | false =>
   have FIN := zx (rule_bad5 (n := n) (zy HM) (zy H1) (zy HN16) (zy H61) (zy HEG) (zy HEN) h59)
   have CN := zx (zy CX w7 r6 rd7 E6 4 [59] (yJ (by decide)) (need_sign' h59))
   rw [e59] at CN
   clear h59 CY CX OUT7 T7 P7 rd7 E6 e0 e61 e59
   go_wp2_with fail
   refine (zy CN).mono ?_
   rintro e w8 ⟨rfl, bu8⟩
   clear CN
   unfold xj
   go_wp2_with fail
   exact ⟨rfl, .inr ⟨_, _, zy FIN, rfl, (zy BU7).then bu8⟩⟩
  | true =>
   have FIN := zx (rule_good (n := n) (zy HM) (zy H1) (zy HN16) (zy H61) (zy HEG) (zy HEN) h59)
   have E7 := E6.sign h59
   have hr6 := qz E6.ne
   have CN := zx (zy CY w7 r6 rd7 E6 E7.ne 4 [59] (yJ (by decide)) (need_sign h59))
   rw [e59] at CN
   have HE7 := zx E7
   clear h59 CY CX rd7 E6 e0 e61 e59 E7 E3 E5
   go_wp2_with fail
   refine (zy CN).mono ?_
   rintro e w8 ⟨v8, rfl, tv8, rd8, bu8⟩
   clear CN tv8
   have BU8 := zx ((zy BU7).then bu8)
   have OUT8 := bu8.at OUT7 (show w.heap.size ≠ b by omega)
   have T8 := bu8.at T7 (show w2.heap.size ≠ b by omega)
   have P8 := bu8.at P7 (show w5.heap.size ≠ b by omega)
   have s7 := b7.size
   have s8 := bu8.size
   obtain ⟨⟨t0, t1, t2, t3⟩, -⟩ := qe T8
   obtain ⟨⟨p0, p1, p2, p3, p4⟩, -⟩ := yV P8
   obtain ⟨⟨o0, o1, o2, o3, o4, o5, o6, o7, o8⟩, f0, f1, f2, f3, f4, f5, f6, f7, f8⟩ := Yx OUT8
   clear OUT7 T7 P7 BU7
   generalize hSX : strOfNums (tx r1) = SX at *
   have HSX := zx hSX
   clear hSX
   go_wp2_with fail
   (try simp only [Exit.inBlock, Exit.then])
   have X9 := fun (k : Nat) (hk : k ≠ w.heap.size) => set9_other (W := w8) hk (.string SX) (.int .i64 (k1 : Int)) (.int .i64 x1) (.string x2) (.slice x3 x4 x5) (.slice x6 x7 x8) (.int .i64 x9) (.slice aN N.length cN) (.int .i64 (pl r1 : Nat))
   have KX : KR w8 ((((((((((((((((((w8).setCell ⟨w.heap.size, 0, none⟩ (.string SX))).setCell ⟨w.heap.size, 1, none⟩ (.int .i64 (k1 : Int)))).setCell ⟨w.heap.size, 2, none⟩ (.int .i64 x1))).setCell ⟨w.heap.size, 3, none⟩ (.string x2))).setCell ⟨w.heap.size, 4, none⟩ (.slice x3 x4 x5))).setCell ⟨w.heap.size, 5, none⟩ (.slice x6 x7 x8))).setCell ⟨w.heap.size, 6, none⟩ (.int .i64 x9))).setCell ⟨w.heap.size, 7, none⟩ (.slice aN N.length cN))).setCell ⟨w.heap.size, 8, none⟩ (.int .i64 (pl r1 : Nat))) := fun g' cs fr hk => by
    rw [X9 g' (yz hk OUT8 (by decide))]; exact hk
   have K68 : KR w6 w8 := (KR.of b7).then (KR.bu bu8 ((b7.block b hb6).trans (zy hrc6).choose_spec.1) (by decide))
   have K58 : KR w5 w8 := ((KR.of (HB5 _)).then (KR.bu (zy HBU6) (((HB5 _).block b hb5).trans (zy hrc5).choose_spec.1) (by decide))).then K68
   refine bodyPost_ret (v := .agg #[(.string SX), (.int .i64 (k1 : Int)), (.int .i64 x1), (.string x2), (.slice x3 x4 x5), (.slice x6 x7 x8), (.int .i64 x9), (.slice aN N.length cN), (.int .i64 (pl r1 : Nat))]) ?_ rfl (.inl ⟨_, _, r6.tail, zy FIN, rfl, ⟨.int .i64 x1, .string x2, .slice x3 x4 x5, .slice x6 x7 x8, .int .i64 x9, aN, cN, by rw [zy HSX], zy HNB, (show zW (k1 : Int) by unfold zW; omega), ?_, (vJ (K68.then KX) (zy HRS).1 (zy HRS).2).1, (vJ (K68.then KX) (zy HRS).1 (zy HRS).2).2, zy HPL⟩, zy HE7, by omega, ?_, ?_⟩)
   ·exact res_rule rfl rfl (set9_at OUT8 _ _ _ _ _ _ _ _ _)
   ·refine (zy PE5).kept (fun g hg => ⟨⟨by have := hg.1; omega, by simp; have := hg.2; omega⟩, ?_⟩) (K58.then KX)
    obtain ⟨g1, g2⟩ := hg
    rw [X9 g (by omega), bu8.block g (by omega) (fun e => by injection e; omega), b7.block g (by omega), (zy HBU6).block g (by rw [World.size_alloc]; omega) (fun e => by injection e; omega), (HB5 _).block g g2]
   ·exact rd8.kept (X9 b (by omega)) (X9 G (by omega)) KX
   ·exact (zy BU8).set9 (Nat.le_refl _) _ _ _ _ _ _ _ _ _
def RuC (PV : Value → RU → Prop) : List RU → List Value → Prop
 | [], cs => cs = []
 | p :: ps, cs => ∃ x0 x1 x2 x3 x4 x5 x6 x7 x8 cs', cs = x0 :: x1 :: x2 :: x3 :: x4 :: x5 :: x6 :: x7 :: x8 :: cs' ∧ PV (.agg #[x0, x1, x2, x3, x4, x5, x6, x7, x8]) p ∧ RuC PV ps cs'
theorem RuC.mono {P Q : Value → RU → Prop} (h : ∀ v p, P v p → Q v p) : ∀ (ps : List RU) (cs : List Value), RuC P ps cs → RuC Q ps cs := by
 intro ps
 induction ps with
 | nil => intro cs hc; exact hc
 | cons x ps ih =>
  intro cs hc
  obtain ⟨x0, x1, x2, x3, x4, x5, x6, x7, x8, cs', e, hv, hr⟩ := hc
  exact ⟨x0, x1, x2, x3, x4, x5, x6, x7, x8, cs', e, h _ _ hv, ih _ hr⟩
theorem RuC.snoc {P : Value → RU → Prop} {p : RU} {x0 x1 x2 x3 x4 x5 x6 x7 x8 : Value} (hv : P (.agg #[x0, x1, x2, x3, x4, x5, x6, x7, x8]) p) : ∀ (ps : List RU) (cs : List Value), RuC P ps cs → RuC P (ps ++ [p]) (cs ++ [x0, x1, x2, x3, x4, x5, x6, x7, x8]) := by
 intro ps
 induction ps with
 | nil =>
  intro cs hc
  have : cs = [] := hc
  subst this
  exact ⟨x0, x1, x2, x3, x4, x5, x6, x7, x8, [], rfl, hv, rfl⟩
 | cons x ps ih =>
  intro cs hc
  obtain ⟨d0, d1, d2, d3, d4, d5, d6, d7, d8, cs', e, hv', hr⟩ := hc
  exact ⟨d0, d1, d2, d3, d4, d5, d6, d7, d8, cs' ++ [x0, x1, x2, x3, x4, x5, x6, x7, x8], by rw [e]; rfl, hv', ih _ hr⟩
def RulesE (D : Nat → Prop) (w : World) (a : Option Addr) (len cap : Nat) (l : List RU) : Prop := ∃ cs, l.length = len ∧ Row5 D w a len cap cs ∧ RuC (RuleV D w) l cs
def FileV (D : Nat → Prop) (w : World) (v : Value) (f : List (List Int) × List RU) : Prop :=
 ∃ aK cK aR cR, v = .agg #[.slice aK f.1.length cK, .slice aR f.2.length cR] ∧ Ss D w aK f.1.length cK f.1 ∧ RulesE D w aR f.2.length cR f.2
theorem own_row {w : World} {base sz : Nat} {T : TypeId} {a : Option Addr} {n c : Nat} {cs : List Value} (h : w.ownsRow base T sz (.slice a n c) n cs) (D : Nat → Prop) (hD : ∀ g, base ≤ g → g < w.heap.size → D g) : Row5 D w a n c cs := by
 rcases h.2 with ⟨e, h0⟩ | ⟨g, cap, cur, e, hb, hg, hn, hm, hs, ht⟩
 ·injection e with e1 e2 e3
  subst e1; subst e3
  have : cs = [] := List.eq_nil_of_length_eq_zero (by rw [h.1, h0]; simp)
  subst this
  exact ⟨by omega, Nat.zero_le _, fun j u hu => by simp at hu⟩
 ·injection e with e1 e2 e3
  subst e1; subst e3
  refine ⟨hn, hm, fun j u hu => ⟨g, 0, rfl, hD g hb (Array.getElem?_eq_some_iff.1 hg).1, ?_⟩⟩
  rw [Nat.zero_add]
  simp only [World.cell?, hg]
  have hj : j < cs.length := (List.getElem?_eq_some_iff.1 hu).1
  rw [← ht] at hu
  rw [List.getElem?_take_of_lt (by rw [h.1] at hj; omega)] at hu
  simpa using hu
structure Bu2 (b F : Nat) (w w' : World) : Prop where
 os : w'.os = w.os
 tape : w'.tape = w.tape
 output : w'.output = w.output
 size : w.heap.size ≤ w'.heap.size
 block : ∀ k, k < w.heap.size → k ≠ b → k ≠ F → w'.heap[k]? = w.heap[k]?
theorem Bu2.refl (b F : Nat) (w : World) : Bu2 b F w w := ⟨rfl, rfl, rfl, Nat.le_refl _, fun _ _ _ _ => rfl⟩
theorem Bu2.bu {b F : Nat} {w W X : World} (h : Bu b w W) (k : Bu2 b F W X) (hF : w.heap.size ≤ F) : Bu b w X :=
 ⟨k.os.trans h.os, k.tape.trans h.tape, k.output.trans h.output, Nat.le_trans h.size k.size, fun i hi hn => (k.block i (Nat.lt_of_lt_of_le hi h.size) (fun e => hn (by rw [e])) (by omega)).trans (h.block i hi hn)⟩
def OwnE (w wr : World) (v : Value) : Nat → Prop := fun g => w.heap.size ≤ g ∧ g < wr.heap.size ∧ some g ≠ v.ownBlock
structure RowR (b G m F : Nat) (d : Int) (w2 : World) (kv : Value) (acc : List RU) (rr : List TN) (v : Value) (cs : List Value) (wr : World) : Prop where
 he : Ends rr
 rd : Rd wr b G rr m d
 mq : Mq wr m
 own : wr.ownsRow w2.heap.size 42 9 v acc.length cs
 pts : RuC (RuleV (OwnE w2 wr v) wr) acc cs
 bu : Bu2 b F w2 wr
 fb : wr.heap[F]? = some (.cells #[kv, v] 26)
theorem RowR.snoc {b G m F : Nat} {d : Int} {w2 wr w3 w4 w5 : World} {kv : Value} {acc : List RU} {rr r4 : List TN} {v : Value} {cs : List Value} (h : RowR b G m F d w2 kv acc rr v cs wr) (hb : b < w2.heap.size) (hG : G < w2.heap.size) (hF : F < w2.heap.size) (hbF : b ≠ F) (hGF : G ≠ F)
  (b3 : Below wr.heap.size wr w3) (bu4 : Bu b w3 w4) (he : Ends r4) (rd4 : Rd w4 b G r4 m d) {u : RU} {x0 x1 x2 x3 x4 x5 x6 x7 x8 : Value} (hp : RuleV (New w3 w4) w4 (.agg #[x0, x1, x2, x3, x4, x5, x6, x7, x8]) u) {o : Obj} {gg cap : Nat}
  (ho : w5.ownsRow w2.heap.size 42 9 (.slice (some ⟨gg, 0, none⟩) (acc.length + 1) cap) (acc.length + 1) (cs ++ [x0, x1, x2, x3, x4, x5, x6, x7, x8])) (hg : (w4.alloc o).grownBy w5 v.ownBlock) (hat : v.ownBlock = some gg ∨ gg = (w4.alloc o).heap.size) :
  RowR b G m F d w2 kv (acc ++ [u]) r4 (.slice (some ⟨gg, 0, none⟩) (acc.length + 1) cap) (cs ++ [x0, x1, x2, x3, x4, x5, x6, x7, x8]) (w5.setCell ⟨F, 1, none⟩ (.slice (some ⟨gg, 0, none⟩) (acc.length + 1) cap)) := by
 obtain ⟨-, rd, mq, own, pts, bu, fb⟩ := h
 have s0 := bu.size
 have s3 := b3.size
 have s4 := bu4.size
 have lo : ∀ k, v.ownBlock = some k → w2.heap.size ≤ k ∧ k < wr.heap.size := own.lt
 have sA : (w4.alloc o).heap.size = w4.heap.size + 1 := by simp
 have s5 := hg.size
 have hgg : w2.heap.size ≤ gg := by
  rcases hat with h1 | h1
  ·exact (lo gg h1).1
  ·omega
 have sc : ∀ g, g ≠ F → (w5.setCell ⟨F, 1, none⟩ (.slice (some ⟨gg, 0, none⟩) (acc.length + 1) cap)).heap[g]? = w5.heap[g]? := fun g hn => Below.heap_setCell w5 ⟨F, 1, none⟩ _ g hn
 have st : ∀ g, g < wr.heap.size → g ≠ b → some g ≠ v.ownBlock → w5.heap[g]? = wr.heap[g]? := fun g h1 h2 h3 => by
  rw [hg.block g (by omega) h3, (Below.new1 o).block g (by omega), bu4.block g (by omega) (fun e => h2 (by injection e)), b3.block g h1]
 have st4 : ∀ g, w3.heap.size ≤ g → g < w4.heap.size → w5.heap[g]? = w4.heap[g]? := fun g h1 h2 => by
  rw [hg.block g (by omega) (fun e => by have := (lo g e.symm).2; omega), (Below.new1 o).block g h2]
 obtain ⟨rc, hrc, -⟩ := rd.cells
 have krA : KR w4 w5 := by
  refine (KR.of (Below.new1 o)).then (KR.grown hg fun k hk => ?_)
  obtain ⟨cs', hc⟩ := own_str own k hk
  have hkb : k ≠ b := by have := (lo k hk).1; omega
  exact ⟨cs', 42, _, zK (bu4.at ((b3.block k (lo k hk).2).trans hc) hkb) o, by decide⟩
 have krB : KR wr w4 := (KR.of b3).then (KR.bu bu4 ((b3.block b (by omega)).trans hrc) (by decide))
 have nbo : some b ≠ v.ownBlock := fun e => by have := (lo b e.symm).1; omega
 have nGo : some G ≠ v.ownBlock := fun e => by have := (lo G e.symm).1; omega
 have nFo : some F ≠ v.ownBlock := fun e => by have := (lo F e.symm).1; omega
 have fb5 : w5.heap[F]? = some (.cells #[kv, v] 26) := (st F (by omega) (fun e => hbF e.symm) nFo).trans fb
 have krC : KR w5 (w5.setCell ⟨F, 1, none⟩ (.slice (some ⟨gg, 0, none⟩) (acc.length + 1) cap)) := fun g cs' fr' hk => by
  rw [sc g (yz hk fb5 (by decide))]; exact hk
 refine ⟨he, ?_, ?_, ?_, ?_, ?_, ?_⟩
 ·refine rd4.kept ?_ ?_ (krA.then krC)
  ·rw [sc b hbF, hg.block b (by omega) nbo, (Below.new1 o).block b (by omega)]
  ·rw [sc G hGF, hg.block G (by omega) nGo, (Below.new1 o).block G (by omega)]
 ·refine mq.kept fun ob h1 h2 => ?_
  have hm := (Array.getElem?_eq_some_iff.1 h1).1
  have ne : ∀ k cs t fr, wr.heap[k]? = some (.cells cs t fr) → m ≠ k := fun k cs t fr hk e => by
   subst e; rw [hk] at h1; injection h1 with h1; exact h2 _ _ _ h1.symm
  rw [sc m (ne F _ _ _ fb), st m hm (ne b _ _ _ hrc) (fun e => by
   obtain ⟨cs', hc⟩ := own_str own m e.symm
   exact ne m _ _ _ hc rfl)]
  exact h1
 ·rw [List.length_append]
  exact ho.kept (w' := w5.setCell ⟨F, 1, none⟩ (.slice (some ⟨gg, 0, none⟩) (acc.length + 1) cap)) (row := some F) (Bu.set F 1 w5 _) (.inr (by simp only [Value.ownBlock, ne_eq, Option.some.injEq]; omega))
 ·refine RuC.snoc (P := RuleV (OwnE w2 (w5.setCell ⟨F, 1, none⟩ (.slice (some ⟨gg, 0, none⟩) (acc.length + 1) cap)) (.slice (some ⟨gg, 0, none⟩) (acc.length + 1) cap)) (w5.setCell ⟨F, 1, none⟩ (.slice (some ⟨gg, 0, none⟩) (acc.length + 1) cap))) ?_ acc cs (RuC.mono (fun u q hq => ?_) _ _ pts)
  ·refine hp.kept (fun g hg' => ⟨⟨by have := hg'.1; omega, by simp; have := hg'.2; omega, ?_⟩, ?_⟩) (krA.then krC)
   ·intro e
    simp only [Value.ownBlock, Option.some.injEq] at e
    rcases hat with h1 | h1
    ·have := (lo gg h1).2; have := hg'.1; omega
    ·have := hg'.2; omega
   ·rw [sc g (by have := hg'.1; omega)]; exact st4 g hg'.1 hg'.2
  ·refine hq.kept (fun g hg' => ⟨⟨hg'.1, by simp; have := hg'.2.1; omega, ?_⟩, ?_⟩) ((krB.then krA).then krC)
   ·intro e
    simp only [Value.ownBlock, Option.some.injEq] at e
    rcases hat with h1 | h1
    ·exact hg'.2.2 (by rw [h1, e])
    ·have := hg'.2.1; omega
   ·rw [sc g (by have := hg'.1; omega)]; exact st g hg'.2.1 (by have := hg'.1; omega) hg'.2.2
 ·refine ⟨?_, ?_, ?_, by simp; omega, fun k hk h1 h2 => ?_⟩
  ·exact hg.os.trans (bu4.os.trans (b3.os.trans bu.os))
  ·exact hg.tape.trans (bu4.tape.trans (b3.tape.trans bu.tape))
  ·exact hg.output.trans (bu4.output.trans (b3.output.trans bu.output))
  ·rw [sc k h2, st k (by omega) h1 (fun e => by have := (lo k e.symm).1; omega)]
   exact bu.block k hk h1 h2
 ·have := heap_setCell_same w5 F 1 _ _ (.slice (some ⟨gg, 0, none⟩) (acc.length + 1) cap) fb5
  simpa using this
theorem ZQ : (Tryz.prog.info? 42).map (fun i => (i.zero, i.size, i.bytes)) = some (some (.agg #[.string ⟨#[]⟩, .int .i64 0, .int .i64 0, .string ⟨#[]⟩, .slice none 0 0, .slice none 0 0, .int .i64 0, .slice none 0 0, .int .i64 0]), 9, 136) := by kernel_rfl
theorem vV (w : World) (n : Nat) (x0 x1 x2 x3 x4 x5 x6 x7 x8 : Value) (hn : n = w.heap.size) : ∀ (j : Nat) (u : Value), [x0, x1, x2, x3, x4, x5, x6, x7, x8][j]? = some u → (w.alloc (.cells #[x0, x1, x2, x3, x4, x5, x6, x7, x8] 42)).cell? ((⟨n, 0, none⟩ : Addr).add j) = some u := by
 subst hn
 exact World.news_of_block (cs := #[x0, x1, x2, x3, x4, x5, x6, x7, x8]) (t := 42) (fr := (0, 0)) (heap_alloc_new w _)
theorem rulesF_end {f : Nat} {acc : List RU} {r : List TN} (ha : acc ≠ []) (h : kd r = -1) : xW (f + 1) acc r = .inr (acc, r) := by
 unfold xW
 rw [if_pos ⟨ha, h⟩]
theorem kx {f : Nat} {acc : List RU} {r r1 : List TN} {u : RU} (h : acc = [] ∨ kd r ≠ -1) (hu : kq acc.length r = .inr (u, r1)) : xW (f + 1) acc r = xW f (acc ++ [u]) r1 := by
 conv => lhs; unfold xW
 rw [if_neg (by rintro ⟨h1, h2⟩; rcases h with h | h; exact h1 h; exact h h2), hu]
theorem vz {f : Nat} {acc : List RU} {r : List TN} {e : Nat × Int} (h : acc = [] ∨ kd r ≠ -1) (hu : kq acc.length r = .inl e) : xW (f + 1) acc r = .inl e := by
 unfold xW
 rw [if_neg (by rintro ⟨h1, h2⟩; rcases h with h | h; exact h1 h; exact h h2), hu]
theorem ZX {n : Nat} {r r1 : List TN} {u : RU} (h : kq n r = .inr (u, r1)) : n ≠ 16 := by
 intro hn
 unfold kq at h
 simp only at h
 split at h
 ·first | cases h | (rw [if_pos hn] at h; cases h)
 ·cases h
theorem RuleV.form {D : Nat → Prop} {w : World} {v : Value} {u : RU} (h : RuleV D w v u) : ∃ z0 z1 z2 z3 z4 z5 z6 z7 z8 z9 z10 z11 z12 z13 z14, v = .agg #[.string z0, .int .i64 z1, .int .i64 z2, .string z3, .slice z4 z5 z6, .slice z7 z8 z9, .int .i64 z10, .slice z11 z12 z13, .int .i64 z14] := by
 obtain ⟨x0, x1, x2, x3, x4, a, c, e, h1, h2, h3, h4, h5, h6⟩ := h
 obtain ⟨y1, y2, y3, y4, y5, y6, y7, y8, y9, ev, -⟩ := h3.form
 simp only [Value.agg.injEq, Array.mk.injEq, List.cons.injEq, and_true] at ev
 obtain ⟨rfl, rfl, rfl, rfl, rfl⟩ := ev
 exact ⟨_, _, _, _, _, _, _, _, _, _, _, _, _, _, _, e⟩
theorem res_file {fn : Func} {p : Tmp} (h : fn.results = #[.cell p 26]) {tmps : Array Value} {g : Nat} (hp : tmps.getD p undef = .pointer (some ⟨g, 0, none⟩)) {X : World} {x0 x1 : Value} (hX : X.heap[g]? = some (.cells #[x0, x1] 26)) :
  (results fn tmps).run Tryz.prog X = .ok (.agg #[x0, x1]) X := by
 obtain ⟨k0, k1⟩ := (yk hX).1
 have hp2 : tmps[p]?.getD undef = .pointer (some ⟨g, 0, none⟩) := by rw [← hp]; simp [Array.getD_eq_getD_getElem?]
 simp only [results, h]
 simp [hp2, go_sem, k0, k1]
def FRES (b : Nat) (w : World) (x : Sum (Nat × Int) (List (List Int) × List RU)) (e : Ending) (w' : World) : Prop :=
 (∃ v f, x = .inr f ∧ e = .returned v ∧ FileV (New w w') w' v f ∧ Bu b w w') ∨ (∃ q why, x = .inl (q, why) ∧ e = xj q why ∧ Bu b w w')
theorem file_l (w : World) (b G : Nat) (r : List TN) (m : Nat) (h : Rd w b G r m (dp 12)) (hr : Ends r) (hl : r.length ≤ 1000) (hm : Mq w m) :
  Calls Tryz.prog 39 #[.pointer (some ⟨b, 0, none⟩)] w (FRES b w (YV r)) := by
 have hbl := h.lt
 have hGl := h.ltG
 have HB : ∀ o, Below w.heap.size w (w.alloc o) := fun o => Below.new1 o
 have CK := zx (fun W (bW : Below w.heap.size w W) => keys_l W b G r m (dp 12) (h.later bW) hr)
 have HST := zx (And.intro h.cells hm)
 have CR := zx (fun W r1 (n : Nat) (hn : n ≤ 16) (k : Rd W b G r1 m (dp 12)) (e : Ends r1) (l : r1.length ≤ 1000) (q : Mq W m) => rule_l W b G r1 m n hn k e l q)
 have e0 : strOfNums [] = ⟨#[]⟩ := rfl
 generalize hD0 : dp 12 = d0 at *
 clear h hr hm hD0
 go_enter Tryz.func39, Tryz.ntmps39
 go_wp2_with fail
 refine (zy CK _ (HB _)).mono ?_
 clear CK
 rintro e w1 (⟨aK, cK, KL, r1, ek, rfl, ssK, hK8, E1, hl1, rd1, bu1⟩ | ⟨q1, y1, ek, rfl, bu1⟩)
 case inr =>
  have FIN : Hid (YV r = .inl (q1, y1)) := by show _ = _; unfold YV; rw [ek]
  clear ek CR
  unfold xj
  go_wp2_with fail
  exact ⟨rfl, .inr ⟨q1, y1, zy FIN, rfl, (Bu.of (HB _)).then bu1⟩⟩
 have ST : Hid (YV r = match xW (r.length + 1) [] r1 with | .inl e => .inl e | .inr (l, _) => .inr (KL, l)) := by show _ = _; unfold YV; rw [ek]; rfl
 have BU1 := zx ((Bu.of (HB _)).then bu1)
 have OUT1 := bu1.at (heap_alloc_new w _) (show w.heap.size ≠ b by omega)
 have s1 : w.heap.size < w1.heap.size := (Array.getElem?_eq_some_iff.1 OUT1).1
 have MQ1 : Mq w1 m := (zy HST).2.bu (zy BU1) (zy HST).1.choose_spec.1
 have SSK := zx ssK
 generalize hF : w1.heap.size = F at *
 have BN := Below.new1 (w := w1) (.cells #[.slice aK KL.length cK, .slice none 0 0] 26)
 have RI : Hid (RowR b G m F d0 (w1.alloc (.cells #[.slice aK KL.length cK, .slice none 0 0] 26)) (.slice aK KL.length cK) [] r1 (.slice none 0 0) [] (w1.alloc (.cells #[.slice aK KL.length cK, .slice none 0 0] 26))) :=
  ⟨E1, rd1.later BN, MQ1.later BN, World.ownsRow_nil _ _ _ _, rfl, Bu2.refl _ _ _, by rw [← hF]; exact heap_alloc_new _ _⟩
 have BU2 := zx ((zy BU1).alloc (.cells #[.slice aK KL.length cK, .slice none 0 0] 26))
 have OUT2 := zx (zK OUT1 (.cells #[.slice aK KL.length cK, .slice none 0 0] 26))
 have sW2 : (w1.alloc (.cells #[.slice aK KL.length cK, .slice none 0 0] 26)).heap.size = F + 1 := by rw [World.size_alloc, hF]
 have SS2 : Hid (Ss (fun g => w.heap.size < g ∧ g < F) (w1.alloc (.cells #[.slice aK KL.length cK, .slice none 0 0] 26)) aK KL.length cK KL) := by
  refine Ss.kept (zy SSK) fun g hg => ⟨⟨?_, ?_⟩, BN.block g (by have := hg.2; omega)⟩
  ·have := hg.1; rw [World.size_alloc] at this; omega
  ·have := hg.2; omega
 clear ek ssK rd1 E1 MQ1 OUT1 bu1 BU1 SSK HST BN
 go_wp2_with fail
 generalize hW2 : w1.alloc (.cells #[.slice aK KL.length cK, .slice none 0 0] 26) = w2 at *
 clear hW2
 go_loopw [] (fun wr => Hid (∃ (acc : List RU) (rr : List TN) (f : Nat) (cs : List Value) (v : Value), xW (r.length + 1) [] r1 = xW f acc rr ∧ rr.length + 1 ≤ f ∧ rr.length ≤ r.length ∧ acc.length ≤ 16 ∧ RowR b G m F d0 w2 (.slice aK KL.length cK) acc rr v cs wr)) (fun wr => leftN b wr)
 case atStart => exact ⟨[], r1, r.length + 1, [], _, rfl, by omega, hl1, by simp, zy RI⟩
 case round =>
  obtain ⟨acc, rr, f, cs, v, hS, hff, hrl, ha16, hI⟩ := zy hrel
  obtain ⟨q5, c5, rfl⟩ := xo hI.own
  have HS := zx hS
  have HI := zx hI
  obtain ⟨f', rfl⟩ : ∃ f', f = f' + 1 := ⟨f - 1, by omega⟩
  obtain ⟨⟨fk, fq⟩, ff0, ff1⟩ := yk hI.fb
  have hbr := hI.rd.lt
  have CU := zx (fun W (bW : Below wr.heap.size wr W) => zy CR W rr acc.length ha16 (hI.rd.later bW) hI.he (by omega) (hI.mq.later bW))
  have CS := zx (sees_l wr b G rr m d0 hI.rd hI.he (-1) [] (fun z hz => by cases hz))
  rw [XW rr (-1) (by decide), e0] at CS
  have hE := hI.he
  have hlF := (Array.getElem?_eq_some_iff.1 hI.fb).1
  clear hrel hS hI RI
  by_cases hz : acc = []
  ·have HZ := zx hz
   have a0 : ((acc.length : Int) == 0) = true := by rw [hz]; rfl
   clear hz hE
   have b3 : Below wr.heap.size wr wr := Below.refl _ _
   go_wp2_with fail
   refine wp_region_held_drew (S := (fun _ => True)) (by kernel_rfl) trivial (fun hHeld => ?_)
   refine tkh 0 ?_ rfl (by kernel_rfl) (fun _ _ _ h => h) ?_ (by assumption) ?_
   rotate_left
   ·intro w hSw; (try dsimp only at hSw); go_simp; (try with_reducible rfl)
   try simp only [pls]
   refine tkh 2 ?_ rfl (by kernel_rfl) (fun _ _ _ h => h) ?_ (by assumption) ?_
   rotate_left
   ·intro w hSw; (try dsimp only at hSw); go_simp; (try with_reducible rfl)
   try simp only [pls]
   refine tkh 3 ?_ rfl (by kernel_rfl) (fun _ _ _ h => h) ?_ (by assumption) ?_
   rotate_left
   ·intro w hSw; (try dsimp only at hSw); go_simp; (try with_reducible rfl)
   try simp only [pls]
   refine wpAnyH_ready (rs := [1, 4]) (by kernel_rfl) (by simp) ?_
   refine AllReadyH.cons rfl (fun K hK => ?_) (AllReadyH.cons rfl (fun K hK => ?_) AllReadyH.nil)
   ·go_simp
    refine hK.out _ _ trivial (fun hHeld => ?_)
    clear hK K
    try simp only [pls]
    refine wpAnyH_ready (rs := [4]) (by kernel_rfl) (by simp) ?_
    refine AllReadyH.cons rfl (fun K hK => ?_) AllReadyH.nil
    go_simp
    refine hK.out _ _ trivial (fun hHeld => ?_)
    clear hK K
    try simp only [pls]
    refine tkh 5 ?_ rfl (by kernel_rfl) (fun _ _ _ h => h) ?_ (by assumption) ?_
    rotate_left
    ·intro w hSw; (try dsimp only at hSw); go_simp; (try with_reducible rfl)
    try simp only [pls]
    refine wpAnyH_ready (rs := [6]) (by kernel_rfl) (by simp) ?_
    refine AllReadyH.cons rfl (fun K hK => ?_) AllReadyH.nil
    go_simp
    refine (zy CU _ (zw b3 zk)).mono ?_
    clear CU
    rintro e w4 (⟨v4, u4, r4, eu, rfl, ru4, E4, hl4, rd4, bu4⟩ | ⟨q4, y4, eu, rfl, bu4⟩)
    ·have STEP : Hid (xW (r.length + 1) [] r1 = xW f' (acc ++ [u4]) r4) := (zy HS).trans (kx (.inl (zy HZ)) eu)
     have hmost := ZX eu
     have B4 := zw b3 (zk (k := 1) (w := wr) (B := wr.heap.size))
     have HRU := zx ru4
     obtain ⟨z0, z1, z2, z3, z4, z5, z6, z7, z8, z9, z10, z11, z12, z13, z14, rfl⟩ := ru4.form
     have HO := vw (ju B4 (zy HI).own) bu4 (by omega)
     have hs4 := bu4.size
     have hs3 := B4.size
     have hs0 := (zy HI).bu.size
     have f4 : w4.heap[F]? = some (.cells #[.slice aK KL.length cK, .slice q5 acc.length c5] 26) := bu4.at ((B4.block F hlF).trans (zy HI).fb) (by omega)
     obtain ⟨⟨g0, g1⟩, k0, k1⟩ := yk f4
     have g1' : ∀ o, (w4.alloc o).cell? ⟨F, 1, none⟩ = some (.slice q5 acc.length c5) := fun o => ((Below.new1 o).cell (zY g1)).trans g1
     have hF4 : F < w4.heap.size := (Array.getElem?_eq_some_iff.1 f4).1
     have HBU4 := zx bu4
     have HRD4 := zx rd4
     have HE4 := zx E4
     obtain ⟨ti, hi0, hz0, hz1, hz2⟩ := info_parts ZQ
     clear ru4 bu4 rd4 E4 eu
     (try clear CS)
     refine hK.out _ _ trivial (fun hHeld => ?_)
     clear hK K
     try simp only [pls]
     refine wpAnyH_ready (rs := [7]) (by kernel_rfl) (by simp) ?_
     refine AllReadyH.cons rfl (fun K hK => ?_) AllReadyH.nil
     go_simp
     refine hK.out _ _ trivial (fun hHeld => ?_)
     clear hK K
     try simp only [pls]
     refine wpAnyH_ready (rs := [8]) (by kernel_rfl) (by simp) ?_
     refine AllReadyH.cons rfl (fun K hK => ?_) AllReadyH.nil
     refine step_append_lies _ rfl _ _ 24 rfl w2.heap.size 42 ti _ 9 136 Tryz.underlying24 hi0 hz0 hz1 hz2 rfl (by omega) _ _ _ rfl (HO.alloc _) ⟨w4.heap.size, 0, none⟩ 1 1 [.string z0, .int .i64 z1, .int .i64 z2, .string z3, .slice z4 z5 z6, .slice z7 z8 z9, .int .i64 z10, .slice z11 z12 z13, .int .i64 z14] rfl rfl (vV _ _ _ _ _ _ _ _ _ _ _ rfl) (by simp [Value.oneCell']) (by omega) (by unfold maxLen; omega) (by omega) (by simp; omega) (w4.heap.size + 1) (by simp) ?_
     intro gg cap1 w5 hown1 hgrow hat hlt1
     have lo := HO.lt
     have f5 : w5.heap[F]? = some (.cells #[.slice aK KL.length cK, .slice q5 acc.length c5] 26) := (hgrow.block F (by rw [World.size_alloc]; omega) (fun e => by have := (lo F e.symm).1; omega)).trans (zK f4 _)
     obtain ⟨⟨n0, n1⟩, n2, n3⟩ := yk f5
     have NI := zx (RowR.snoc (zy HI) (by omega) (by omega) (by omega) (by omega) (by omega) B4 (zy HBU4) (zy HE4) (zy HRD4) (zy HRU) hown1 hgrow (by rcases hat with h | h; exact .inl h; exact .inr (by simp [h])))
     clear g0 g1 g1' k0 k1 f4 hgrow hat hlt1 hown1 HO lo
     refine hK.out _ _ trivial (fun hHeld => ?_)
     clear hK K
     try simp only [pls]
     refine tkh 9 ?_ rfl (by kernel_rfl) (fun _ _ _ h => h) ?_ (by assumption) ?_
     rotate_left
     ·intro w hSw; (try dsimp only at hSw); go_simp; (try with_reducible rfl)
     try simp only [pls]
     refine wpAnyH_ready (rs := [10]) (by kernel_rfl) (by simp) ?_
     refine AllReadyH.cons rfl (fun K hK => ?_) AllReadyH.nil
     go_simp
     refine hK.out _ _ trivial (fun hHeld => ?_)
     clear hK K
     try simp only [pls]
     refine wpAnyH_done (by kernel_rfl) ?_ _
     go_wp2_with fail
     go_roundw
     case rel =>
      refine ⟨acc ++ [u4], r4, f', _, _, zy STEP, by omega, by omega, by rw [List.length_append, List.length_singleton]; omega, zy NI⟩
     case measure => rw [(zy NI).rd.left, (zy HI).rd.left]; exact hl4
    ·have FIN : Hid (YV r = .inl (q4, y4)) := by show _ = _; rw [zy ST, zy HS, vz (.inl (zy HZ)) eu]
     have BF := zx ((Bu2.bu (zy BU2) (zy HI).bu (by omega)).then ((Bu.of (zw b3 (zk (k := 1) (w := wr) (B := wr.heap.size)))).then bu4))
     clear eu
     unfold xj
     go_wp2_with fail
     exact ⟨rfl, .inr ⟨q4, y4, zy FIN, rfl, zy BF⟩⟩
   ·go_simp
    refine hK.out _ _ trivial (fun hHeld => ?_)
    clear hK K
    try simp only [pls]
    refine tkh 5 ?_ rfl (by kernel_rfl) (fun _ _ _ h => h) ?_ (by assumption) ?_
    rotate_left
    ·intro w hSw; (try dsimp only at hSw); go_simp; (try with_reducible rfl)
    try simp only [pls]
    refine wpAnyH_ready (rs := [1, 6]) (by kernel_rfl) (by simp) ?_
    refine AllReadyH.cons rfl (fun K hK => ?_) (AllReadyH.cons rfl (fun K hK => ?_) AllReadyH.nil)
    ·go_simp
     refine hK.out _ _ trivial (fun hHeld => ?_)
     clear hK K
     try simp only [pls]
     refine wpAnyH_ready (rs := [6]) (by kernel_rfl) (by simp) ?_
     refine AllReadyH.cons rfl (fun K hK => ?_) AllReadyH.nil
     go_simp
     refine (zy CU _ (zw b3 zk)).mono ?_
     clear CU
     rintro e w4 (⟨v4, u4, r4, eu, rfl, ru4, E4, hl4, rd4, bu4⟩ | ⟨q4, y4, eu, rfl, bu4⟩)
     ·have STEP : Hid (xW (r.length + 1) [] r1 = xW f' (acc ++ [u4]) r4) := (zy HS).trans (kx (.inl (zy HZ)) eu)
      have hmost := ZX eu
      have B4 := zw b3 (zk (k := 1) (w := wr) (B := wr.heap.size))
      have HRU := zx ru4
      obtain ⟨z0, z1, z2, z3, z4, z5, z6, z7, z8, z9, z10, z11, z12, z13, z14, rfl⟩ := ru4.form
      have HO := vw (ju B4 (zy HI).own) bu4 (by omega)
      have hs4 := bu4.size
      have hs3 := B4.size
      have hs0 := (zy HI).bu.size
      have f4 : w4.heap[F]? = some (.cells #[.slice aK KL.length cK, .slice q5 acc.length c5] 26) := bu4.at ((B4.block F hlF).trans (zy HI).fb) (by omega)
      obtain ⟨⟨g0, g1⟩, k0, k1⟩ := yk f4
      have g1' : ∀ o, (w4.alloc o).cell? ⟨F, 1, none⟩ = some (.slice q5 acc.length c5) := fun o => ((Below.new1 o).cell (zY g1)).trans g1
      have hF4 : F < w4.heap.size := (Array.getElem?_eq_some_iff.1 f4).1
      have HBU4 := zx bu4
      have HRD4 := zx rd4
      have HE4 := zx E4
      obtain ⟨ti, hi0, hz0, hz1, hz2⟩ := info_parts ZQ
      clear ru4 bu4 rd4 E4 eu
      (try clear CS)
      refine hK.out _ _ trivial (fun hHeld => ?_)
      clear hK K
      try simp only [pls]
      refine wpAnyH_ready (rs := [7]) (by kernel_rfl) (by simp) ?_
      refine AllReadyH.cons rfl (fun K hK => ?_) AllReadyH.nil
      go_simp
      refine hK.out _ _ trivial (fun hHeld => ?_)
      clear hK K
      try simp only [pls]
      refine wpAnyH_ready (rs := [8]) (by kernel_rfl) (by simp) ?_
      refine AllReadyH.cons rfl (fun K hK => ?_) AllReadyH.nil
      refine step_append_lies _ rfl _ _ 24 rfl w2.heap.size 42 ti _ 9 136 Tryz.underlying24 hi0 hz0 hz1 hz2 rfl (by omega) _ _ _ rfl (HO.alloc _) ⟨w4.heap.size, 0, none⟩ 1 1 [.string z0, .int .i64 z1, .int .i64 z2, .string z3, .slice z4 z5 z6, .slice z7 z8 z9, .int .i64 z10, .slice z11 z12 z13, .int .i64 z14] rfl rfl (vV _ _ _ _ _ _ _ _ _ _ _ rfl) (by simp [Value.oneCell']) (by omega) (by unfold maxLen; omega) (by omega) (by simp; omega) (w4.heap.size + 1) (by simp) ?_
      intro gg cap1 w5 hown1 hgrow hat hlt1
      have lo := HO.lt
      have f5 : w5.heap[F]? = some (.cells #[.slice aK KL.length cK, .slice q5 acc.length c5] 26) := (hgrow.block F (by rw [World.size_alloc]; omega) (fun e => by have := (lo F e.symm).1; omega)).trans (zK f4 _)
      obtain ⟨⟨n0, n1⟩, n2, n3⟩ := yk f5
      have NI := zx (RowR.snoc (zy HI) (by omega) (by omega) (by omega) (by omega) (by omega) B4 (zy HBU4) (zy HE4) (zy HRD4) (zy HRU) hown1 hgrow (by rcases hat with h | h; exact .inl h; exact .inr (by simp [h])))
      clear g0 g1 g1' k0 k1 f4 hgrow hat hlt1 hown1 HO lo
      refine hK.out _ _ trivial (fun hHeld => ?_)
      clear hK K
      try simp only [pls]
      refine tkh 9 ?_ rfl (by kernel_rfl) (fun _ _ _ h => h) ?_ (by assumption) ?_
      rotate_left
      ·intro w hSw; (try dsimp only at hSw); go_simp; (try with_reducible rfl)
      try simp only [pls]
      refine wpAnyH_ready (rs := [10]) (by kernel_rfl) (by simp) ?_
      refine AllReadyH.cons rfl (fun K hK => ?_) AllReadyH.nil
      go_simp
      refine hK.out _ _ trivial (fun hHeld => ?_)
      clear hK K
      try simp only [pls]
      refine wpAnyH_done (by kernel_rfl) ?_ _
      go_wp2_with fail
      go_roundw
      case rel =>
       refine ⟨acc ++ [u4], r4, f', _, _, zy STEP, by omega, by omega, by rw [List.length_append, List.length_singleton]; omega, zy NI⟩
      case measure => rw [(zy NI).rd.left, (zy HI).rd.left]; exact hl4
     ·have FIN : Hid (YV r = .inl (q4, y4)) := by show _ = _; rw [zy ST, zy HS, vz (.inl (zy HZ)) eu]
      have BF := zx ((Bu2.bu (zy BU2) (zy HI).bu (by omega)).then ((Bu.of (zw b3 (zk (k := 1) (w := wr) (B := wr.heap.size)))).then bu4))
      clear eu
      unfold xj
      go_wp2_with fail
      exact ⟨rfl, .inr ⟨q4, y4, zy FIN, rfl, zy BF⟩⟩
    ·go_simp
     refine (zy CU _ (zw b3 zk)).mono ?_
     clear CU
     rintro e w4 (⟨v4, u4, r4, eu, rfl, ru4, E4, hl4, rd4, bu4⟩ | ⟨q4, y4, eu, rfl, bu4⟩)
     ·have STEP : Hid (xW (r.length + 1) [] r1 = xW f' (acc ++ [u4]) r4) := (zy HS).trans (kx (.inl (zy HZ)) eu)
      have hmost := ZX eu
      have B4 := zw b3 (zk (k := 1) (w := wr) (B := wr.heap.size))
      have HRU := zx ru4
      obtain ⟨z0, z1, z2, z3, z4, z5, z6, z7, z8, z9, z10, z11, z12, z13, z14, rfl⟩ := ru4.form
      have HO := vw (ju B4 (zy HI).own) bu4 (by omega)
      have hs4 := bu4.size
      have hs3 := B4.size
      have hs0 := (zy HI).bu.size
      have f4 : w4.heap[F]? = some (.cells #[.slice aK KL.length cK, .slice q5 acc.length c5] 26) := bu4.at ((B4.block F hlF).trans (zy HI).fb) (by omega)
      obtain ⟨⟨g0, g1⟩, k0, k1⟩ := yk f4
      have g1' : ∀ o, (w4.alloc o).cell? ⟨F, 1, none⟩ = some (.slice q5 acc.length c5) := fun o => ((Below.new1 o).cell (zY g1)).trans g1
      have hF4 : F < w4.heap.size := (Array.getElem?_eq_some_iff.1 f4).1
      have HBU4 := zx bu4
      have HRD4 := zx rd4
      have HE4 := zx E4
      obtain ⟨ti, hi0, hz0, hz1, hz2⟩ := info_parts ZQ
      clear ru4 bu4 rd4 E4 eu
      (try clear CS)
      refine hK.out _ _ trivial (fun hHeld => ?_)
      clear hK K
      try simp only [pls]
      refine wpAnyH_ready (rs := [1, 7]) (by kernel_rfl) (by simp) ?_
      refine AllReadyH.cons rfl (fun K hK => ?_) (AllReadyH.cons rfl (fun K hK => ?_) AllReadyH.nil)
      ·go_simp
       refine hK.out _ _ trivial (fun hHeld => ?_)
       clear hK K
       try simp only [pls]
       refine wpAnyH_ready (rs := [7]) (by kernel_rfl) (by simp) ?_
       refine AllReadyH.cons rfl (fun K hK => ?_) AllReadyH.nil
       go_simp
       refine hK.out _ _ trivial (fun hHeld => ?_)
       clear hK K
       try simp only [pls]
       refine wpAnyH_ready (rs := [8]) (by kernel_rfl) (by simp) ?_
       refine AllReadyH.cons rfl (fun K hK => ?_) AllReadyH.nil
       refine step_append_lies _ rfl _ _ 24 rfl w2.heap.size 42 ti _ 9 136 Tryz.underlying24 hi0 hz0 hz1 hz2 rfl (by omega) _ _ _ rfl (HO.alloc _) ⟨w4.heap.size, 0, none⟩ 1 1 [.string z0, .int .i64 z1, .int .i64 z2, .string z3, .slice z4 z5 z6, .slice z7 z8 z9, .int .i64 z10, .slice z11 z12 z13, .int .i64 z14] rfl rfl (vV _ _ _ _ _ _ _ _ _ _ _ rfl) (by simp [Value.oneCell']) (by omega) (by unfold maxLen; omega) (by omega) (by simp; omega) (w4.heap.size + 1) (by simp) ?_
       intro gg cap1 w5 hown1 hgrow hat hlt1
       have lo := HO.lt
       have f5 : w5.heap[F]? = some (.cells #[.slice aK KL.length cK, .slice q5 acc.length c5] 26) := (hgrow.block F (by rw [World.size_alloc]; omega) (fun e => by have := (lo F e.symm).1; omega)).trans (zK f4 _)
       obtain ⟨⟨n0, n1⟩, n2, n3⟩ := yk f5
       have NI := zx (RowR.snoc (zy HI) (by omega) (by omega) (by omega) (by omega) (by omega) B4 (zy HBU4) (zy HE4) (zy HRD4) (zy HRU) hown1 hgrow (by rcases hat with h | h; exact .inl h; exact .inr (by simp [h])))
       clear g0 g1 g1' k0 k1 f4 hgrow hat hlt1 hown1 HO lo
       refine hK.out _ _ trivial (fun hHeld => ?_)
       clear hK K
       try simp only [pls]
       refine tkh 9 ?_ rfl (by kernel_rfl) (fun _ _ _ h => h) ?_ (by assumption) ?_
       rotate_left
       ·intro w hSw; (try dsimp only at hSw); go_simp; (try with_reducible rfl)
       try simp only [pls]
       refine wpAnyH_ready (rs := [10]) (by kernel_rfl) (by simp) ?_
       refine AllReadyH.cons rfl (fun K hK => ?_) AllReadyH.nil
       go_simp
       refine hK.out _ _ trivial (fun hHeld => ?_)
       clear hK K
       try simp only [pls]
       refine wpAnyH_done (by kernel_rfl) ?_ _
       go_wp2_with fail
       go_roundw
       case rel =>
        refine ⟨acc ++ [u4], r4, f', _, _, zy STEP, by omega, by omega, by rw [List.length_append, List.length_singleton]; omega, zy NI⟩
       case measure => rw [(zy NI).rd.left, (zy HI).rd.left]; exact hl4
      ·go_simp
       refine hK.out _ _ trivial (fun hHeld => ?_)
       clear hK K
       try simp only [pls]
       refine wpAnyH_ready (rs := [1]) (by kernel_rfl) (by simp) ?_
       refine AllReadyH.cons rfl (fun K hK => ?_) AllReadyH.nil
       go_simp
       refine hK.out _ _ trivial (fun hHeld => ?_)
       clear hK K
       try simp only [pls]
       refine wpAnyH_ready (rs := [8]) (by kernel_rfl) (by simp) ?_
       refine AllReadyH.cons rfl (fun K hK => ?_) AllReadyH.nil
       refine step_append_lies _ rfl _ _ 24 rfl w2.heap.size 42 ti _ 9 136 Tryz.underlying24 hi0 hz0 hz1 hz2 rfl (by omega) _ _ _ rfl (HO.alloc _) ⟨w4.heap.size, 0, none⟩ 1 1 [.string z0, .int .i64 z1, .int .i64 z2, .string z3, .slice z4 z5 z6, .slice z7 z8 z9, .int .i64 z10, .slice z11 z12 z13, .int .i64 z14] rfl rfl (vV _ _ _ _ _ _ _ _ _ _ _ rfl) (by simp [Value.oneCell']) (by omega) (by unfold maxLen; omega) (by omega) (by simp; omega) (w4.heap.size + 1) (by simp) ?_
       intro gg cap1 w5 hown1 hgrow hat hlt1
       have lo := HO.lt
       have f5 : w5.heap[F]? = some (.cells #[.slice aK KL.length cK, .slice q5 acc.length c5] 26) := (hgrow.block F (by rw [World.size_alloc]; omega) (fun e => by have := (lo F e.symm).1; omega)).trans (zK f4 _)
       obtain ⟨⟨n0, n1⟩, n2, n3⟩ := yk f5
       have NI := zx (RowR.snoc (zy HI) (by omega) (by omega) (by omega) (by omega) (by omega) B4 (zy HBU4) (zy HE4) (zy HRD4) (zy HRU) hown1 hgrow (by rcases hat with h | h; exact .inl h; exact .inr (by simp [h])))
       clear g0 g1 g1' k0 k1 f4 hgrow hat hlt1 hown1 HO lo
       refine hK.out _ _ trivial (fun hHeld => ?_)
       clear hK K
       try simp only [pls]
       refine tkh 9 ?_ rfl (by kernel_rfl) (fun _ _ _ h => h) ?_ (by assumption) ?_
       rotate_left
       ·intro w hSw; (try dsimp only at hSw); go_simp; (try with_reducible rfl)
       try simp only [pls]
       refine wpAnyH_ready (rs := [10]) (by kernel_rfl) (by simp) ?_
       refine AllReadyH.cons rfl (fun K hK => ?_) AllReadyH.nil
       go_simp
       refine hK.out _ _ trivial (fun hHeld => ?_)
       clear hK K
       try simp only [pls]
       refine wpAnyH_done (by kernel_rfl) ?_ _
       go_wp2_with fail
       go_roundw
       case rel =>
        refine ⟨acc ++ [u4], r4, f', _, _, zy STEP, by omega, by omega, by rw [List.length_append, List.length_singleton]; omega, zy NI⟩
       case measure => rw [(zy NI).rd.left, (zy HI).rd.left]; exact hl4
     ·have FIN : Hid (YV r = .inl (q4, y4)) := by show _ = _; rw [zy ST, zy HS, vz (.inl (zy HZ)) eu]
      have BF := zx ((Bu2.bu (zy BU2) (zy HI).bu (by omega)).then ((Bu.of (zw b3 (zk (k := 1) (w := wr) (B := wr.heap.size)))).then bu4))
      clear eu
      unfold xj
      go_wp2_with fail
      exact ⟨rfl, .inr ⟨q4, y4, zy FIN, rfl, zy BF⟩⟩
  ·by_cases he : kd rr = -1
   ·have a0 : ((acc.length : Int) == 0) = false := beq_eq_false_iff_ne.2 (fun c => hz (List.eq_nil_of_length_eq_zero (by omega)))
    rw [decide_eq_true he] at CS
    have FIN : Hid (YV r = .inr (KL, acc)) := by show _ = _; rw [zy ST, zy HS, rulesF_end hz he]
    clear hz he hE CU
    go_wp2_with fail
    refine (zy CS).mono ?_
    rintro e w3 ⟨rfl, b3⟩
    clear CS
    have hI := zy HI
    have hs0 := hI.bu.size
    have FB3 : w3.heap[F]? = some (.cells #[.slice aK KL.length cK, .slice q5 acc.length c5] 26) := (b3.block F hlF).trans hI.fb
    have OUT3 : w3.heap[w.heap.size]? = some (.cells #[.slice none 0 0, .slice none 0 0] 26) := by
     rw [b3.block _ (by omega), hI.bu.block _ (by omega) (by omega) (by omega)]
     exact zy OUT2
    obtain ⟨⟨g0, g1⟩, -⟩ := yk FB3
    obtain ⟨⟨o0, o1⟩, k0, k1⟩ := yk OUT3
    clear hI
    go_wp2_with fail
    (try simp only [Exit.inBlock, Exit.then])
    have hI := zy HI
    have X2 : ∀ k, k ≠ w.heap.size → ((w3.setCell ⟨w.heap.size, 0, none⟩ (.slice aK KL.length cK)).setCell ⟨w.heap.size, 1, none⟩ (.slice q5 acc.length c5)).heap[k]? = w3.heap[k]? := fun k hk => by
     simp only [Below.heap_setCell _ _ _ k (show k ≠ (⟨w.heap.size, _, none⟩ : Addr).block from hk)]
    have KX : KR w3 ((w3.setCell ⟨w.heap.size, 0, none⟩ (.slice aK KL.length cK)).setCell ⟨w.heap.size, 1, none⟩ (.slice q5 acc.length c5)) := fun g' cs fr hk => by
     rw [X2 g' (yz hk OUT3 (by decide))]; exact hk
    have s3 := b3.size
    have OWX := (ju b3 hI.own).kept (w' := (w3.setCell ⟨w.heap.size, 0, none⟩ (.slice aK KL.length cK)).setCell ⟨w.heap.size, 1, none⟩ (.slice q5 acc.length c5)) (row := some w.heap.size) ((Bu.set w.heap.size 0 w3 _).then (Bu.set w.heap.size 1 _ _)) (by
     cases e : (Value.slice q5 acc.length c5).ownBlock with
     | none => exact .inl rfl
     | some k => exact .inr (fun c => by injection c with c; have := (hI.own.lt k e).1; omega))
    refine bodyPost_ret (v := .agg #[.slice aK KL.length cK, .slice q5 acc.length c5]) ?_ rfl (.inl ⟨_, (KL, acc), zy FIN, rfl, ⟨aK, cK, q5, c5, rfl, ?_, cs, rfl, own_row OWX _ (fun g h1 h2 => ⟨by omega, h2⟩), ?_⟩, ?_⟩)
    ·exact res_file rfl rfl (by
      have h0 := heap_setCell_same w3 w.heap.size 0 _ _ (.slice aK KL.length cK) OUT3
      have h1 := heap_setCell_same _ w.heap.size 1 _ _ (.slice q5 acc.length c5) h0
      simpa using h1)
    ·refine Ss.kept (zy SS2) fun g hg => ⟨⟨by have := hg.1; omega, by simp; have := hg.2; omega⟩, ?_⟩
     obtain ⟨g1, g2⟩ := hg
     rw [X2 g (by omega), b3.block g (by omega), hI.bu.block g (by omega) (by omega) (by omega)]
    ·refine RuC.mono (fun u q hq => hq.kept (fun g hg => ⟨⟨by have := hg.1; omega, by simp; have := hg.2.1; omega⟩, ?_⟩) ((KR.of b3).then KX)) _ _ hI.pts
     rw [X2 g (by have := hg.1; omega), b3.block g hg.2.1]
    ·exact (((Bu2.bu (zy BU2) hI.bu (by omega)).then (Bu.of b3)).setTop (Nat.le_refl _) _ _).setTop (Nat.le_refl _) _ _
   ·have a0 : ((acc.length : Int) == 0) = false := beq_eq_false_iff_ne.2 (fun c => hz (List.eq_nil_of_length_eq_zero (by omega)))
    rw [decide_eq_false he] at CS
    have HZ := zx he
    clear hz he hE
    go_wp2_with fail
    refine (zy CS).mono ?_
    rintro e w3 ⟨rfl, b3⟩
    clear CS
    have fq := (b3.cell hlF).trans fq
    go_wp2_with fail
    refine wp_region_held_drew (S := (fun _ => True)) (by kernel_rfl) trivial (fun hHeld => ?_)
    refine tkh 0 ?_ rfl (by kernel_rfl) (fun _ _ _ h => h) ?_ (by assumption) ?_
    rotate_left
    ·intro w hSw; (try dsimp only at hSw); go_simp; (try with_reducible rfl)
    try simp only [pls]
    refine tkh 2 ?_ rfl (by kernel_rfl) (fun _ _ _ h => h) ?_ (by assumption) ?_
    rotate_left
    ·intro w hSw; (try dsimp only at hSw); go_simp; (try with_reducible rfl)
    try simp only [pls]
    refine tkh 3 ?_ rfl (by kernel_rfl) (fun _ _ _ h => h) ?_ (by assumption) ?_
    rotate_left
    ·intro w hSw; (try dsimp only at hSw); go_simp; (try with_reducible rfl)
    try simp only [pls]
    refine wpAnyH_ready (rs := [1, 4]) (by kernel_rfl) (by simp) ?_
    refine AllReadyH.cons rfl (fun K hK => ?_) (AllReadyH.cons rfl (fun K hK => ?_) AllReadyH.nil)
    ·go_simp
     refine hK.out _ _ trivial (fun hHeld => ?_)
     clear hK K
     try simp only [pls]
     refine wpAnyH_ready (rs := [4]) (by kernel_rfl) (by simp) ?_
     refine AllReadyH.cons rfl (fun K hK => ?_) AllReadyH.nil
     go_simp
     refine hK.out _ _ trivial (fun hHeld => ?_)
     clear hK K
     try simp only [pls]
     refine tkh 5 ?_ rfl (by kernel_rfl) (fun _ _ _ h => h) ?_ (by assumption) ?_
     rotate_left
     ·intro w hSw; (try dsimp only at hSw); go_simp; (try with_reducible rfl)
     try simp only [pls]
     refine wpAnyH_ready (rs := [6]) (by kernel_rfl) (by simp) ?_
     refine AllReadyH.cons rfl (fun K hK => ?_) AllReadyH.nil
     go_simp
     refine (zy CU _ (zw b3 zk)).mono ?_
     clear CU
     rintro e w4 (⟨v4, u4, r4, eu, rfl, ru4, E4, hl4, rd4, bu4⟩ | ⟨q4, y4, eu, rfl, bu4⟩)
     ·have STEP : Hid (xW (r.length + 1) [] r1 = xW f' (acc ++ [u4]) r4) := (zy HS).trans (kx (.inr (zy HZ)) eu)
      have hmost := ZX eu
      have B4 := zw b3 (zk (k := 1) (w := w3) (B := w3.heap.size))
      have HRU := zx ru4
      obtain ⟨z0, z1, z2, z3, z4, z5, z6, z7, z8, z9, z10, z11, z12, z13, z14, rfl⟩ := ru4.form
      have HO := vw (ju B4 (zy HI).own) bu4 (by omega)
      have hs4 := bu4.size
      have hs3 := B4.size
      have hs0 := (zy HI).bu.size
      have f4 : w4.heap[F]? = some (.cells #[.slice aK KL.length cK, .slice q5 acc.length c5] 26) := bu4.at ((B4.block F hlF).trans (zy HI).fb) (by omega)
      obtain ⟨⟨g0, g1⟩, k0, k1⟩ := yk f4
      have g1' : ∀ o, (w4.alloc o).cell? ⟨F, 1, none⟩ = some (.slice q5 acc.length c5) := fun o => ((Below.new1 o).cell (zY g1)).trans g1
      have hF4 : F < w4.heap.size := (Array.getElem?_eq_some_iff.1 f4).1
      have HBU4 := zx bu4
      have HRD4 := zx rd4
      have HE4 := zx E4
      obtain ⟨ti, hi0, hz0, hz1, hz2⟩ := info_parts ZQ
      clear ru4 bu4 rd4 E4 eu
      (try clear CS)
      refine hK.out _ _ trivial (fun hHeld => ?_)
      clear hK K
      try simp only [pls]
      refine wpAnyH_ready (rs := [7]) (by kernel_rfl) (by simp) ?_
      refine AllReadyH.cons rfl (fun K hK => ?_) AllReadyH.nil
      go_simp
      refine hK.out _ _ trivial (fun hHeld => ?_)
      clear hK K
      try simp only [pls]
      refine wpAnyH_ready (rs := [8]) (by kernel_rfl) (by simp) ?_
      refine AllReadyH.cons rfl (fun K hK => ?_) AllReadyH.nil
      refine step_append_lies _ rfl _ _ 24 rfl w2.heap.size 42 ti _ 9 136 Tryz.underlying24 hi0 hz0 hz1 hz2 rfl (by omega) _ _ _ rfl (HO.alloc _) ⟨w4.heap.size, 0, none⟩ 1 1 [.string z0, .int .i64 z1, .int .i64 z2, .string z3, .slice z4 z5 z6, .slice z7 z8 z9, .int .i64 z10, .slice z11 z12 z13, .int .i64 z14] rfl rfl (vV _ _ _ _ _ _ _ _ _ _ _ rfl) (by simp [Value.oneCell']) (by omega) (by unfold maxLen; omega) (by omega) (by simp; omega) (w4.heap.size + 1) (by simp) ?_
      intro gg cap1 w5 hown1 hgrow hat hlt1
      have lo := HO.lt
      have f5 : w5.heap[F]? = some (.cells #[.slice aK KL.length cK, .slice q5 acc.length c5] 26) := (hgrow.block F (by rw [World.size_alloc]; omega) (fun e => by have := (lo F e.symm).1; omega)).trans (zK f4 _)
      obtain ⟨⟨n0, n1⟩, n2, n3⟩ := yk f5
      have NI := zx (RowR.snoc (zy HI) (by omega) (by omega) (by omega) (by omega) (by omega) B4 (zy HBU4) (zy HE4) (zy HRD4) (zy HRU) hown1 hgrow (by rcases hat with h | h; exact .inl h; exact .inr (by simp [h])))
      clear g0 g1 g1' k0 k1 f4 hgrow hat hlt1 hown1 HO lo
      refine hK.out _ _ trivial (fun hHeld => ?_)
      clear hK K
      try simp only [pls]
      refine tkh 9 ?_ rfl (by kernel_rfl) (fun _ _ _ h => h) ?_ (by assumption) ?_
      rotate_left
      ·intro w hSw; (try dsimp only at hSw); go_simp; (try with_reducible rfl)
      try simp only [pls]
      refine wpAnyH_ready (rs := [10]) (by kernel_rfl) (by simp) ?_
      refine AllReadyH.cons rfl (fun K hK => ?_) AllReadyH.nil
      go_simp
      refine hK.out _ _ trivial (fun hHeld => ?_)
      clear hK K
      try simp only [pls]
      refine wpAnyH_done (by kernel_rfl) ?_ _
      go_wp2_with fail
      go_roundw
      case rel =>
       refine ⟨acc ++ [u4], r4, f', _, _, zy STEP, by omega, by omega, by rw [List.length_append, List.length_singleton]; omega, zy NI⟩
      case measure => rw [(zy NI).rd.left, (zy HI).rd.left]; exact hl4
     ·have FIN : Hid (YV r = .inl (q4, y4)) := by show _ = _; rw [zy ST, zy HS, vz (.inr (zy HZ)) eu]
      have BF := zx ((Bu2.bu (zy BU2) (zy HI).bu (by omega)).then ((Bu.of (zw b3 (zk (k := 1) (w := w3) (B := w3.heap.size)))).then bu4))
      clear eu
      unfold xj
      go_wp2_with fail
      exact ⟨rfl, .inr ⟨q4, y4, zy FIN, rfl, zy BF⟩⟩
    ·go_simp
     refine hK.out _ _ trivial (fun hHeld => ?_)
     clear hK K
     try simp only [pls]
     refine tkh 5 ?_ rfl (by kernel_rfl) (fun _ _ _ h => h) ?_ (by assumption) ?_
     rotate_left
     ·intro w hSw; (try dsimp only at hSw); go_simp; (try with_reducible rfl)
     try simp only [pls]
     refine wpAnyH_ready (rs := [1, 6]) (by kernel_rfl) (by simp) ?_
     refine AllReadyH.cons rfl (fun K hK => ?_) (AllReadyH.cons rfl (fun K hK => ?_) AllReadyH.nil)
     ·go_simp
      refine hK.out _ _ trivial (fun hHeld => ?_)
      clear hK K
      try simp only [pls]
      refine wpAnyH_ready (rs := [6]) (by kernel_rfl) (by simp) ?_
      refine AllReadyH.cons rfl (fun K hK => ?_) AllReadyH.nil
      go_simp
      refine (zy CU _ (zw b3 zk)).mono ?_
      clear CU
      rintro e w4 (⟨v4, u4, r4, eu, rfl, ru4, E4, hl4, rd4, bu4⟩ | ⟨q4, y4, eu, rfl, bu4⟩)
      ·have STEP : Hid (xW (r.length + 1) [] r1 = xW f' (acc ++ [u4]) r4) := (zy HS).trans (kx (.inr (zy HZ)) eu)
       have hmost := ZX eu
       have B4 := zw b3 (zk (k := 1) (w := w3) (B := w3.heap.size))
       have HRU := zx ru4
       obtain ⟨z0, z1, z2, z3, z4, z5, z6, z7, z8, z9, z10, z11, z12, z13, z14, rfl⟩ := ru4.form
       have HO := vw (ju B4 (zy HI).own) bu4 (by omega)
       have hs4 := bu4.size
       have hs3 := B4.size
       have hs0 := (zy HI).bu.size
       have f4 : w4.heap[F]? = some (.cells #[.slice aK KL.length cK, .slice q5 acc.length c5] 26) := bu4.at ((B4.block F hlF).trans (zy HI).fb) (by omega)
       obtain ⟨⟨g0, g1⟩, k0, k1⟩ := yk f4
       have g1' : ∀ o, (w4.alloc o).cell? ⟨F, 1, none⟩ = some (.slice q5 acc.length c5) := fun o => ((Below.new1 o).cell (zY g1)).trans g1
       have hF4 : F < w4.heap.size := (Array.getElem?_eq_some_iff.1 f4).1
       have HBU4 := zx bu4
       have HRD4 := zx rd4
       have HE4 := zx E4
       obtain ⟨ti, hi0, hz0, hz1, hz2⟩ := info_parts ZQ
       clear ru4 bu4 rd4 E4 eu
       (try clear CS)
       refine hK.out _ _ trivial (fun hHeld => ?_)
       clear hK K
       try simp only [pls]
       refine wpAnyH_ready (rs := [7]) (by kernel_rfl) (by simp) ?_
       refine AllReadyH.cons rfl (fun K hK => ?_) AllReadyH.nil
       go_simp
       refine hK.out _ _ trivial (fun hHeld => ?_)
       clear hK K
       try simp only [pls]
       refine wpAnyH_ready (rs := [8]) (by kernel_rfl) (by simp) ?_
       refine AllReadyH.cons rfl (fun K hK => ?_) AllReadyH.nil
       refine step_append_lies _ rfl _ _ 24 rfl w2.heap.size 42 ti _ 9 136 Tryz.underlying24 hi0 hz0 hz1 hz2 rfl (by omega) _ _ _ rfl (HO.alloc _) ⟨w4.heap.size, 0, none⟩ 1 1 [.string z0, .int .i64 z1, .int .i64 z2, .string z3, .slice z4 z5 z6, .slice z7 z8 z9, .int .i64 z10, .slice z11 z12 z13, .int .i64 z14] rfl rfl (vV _ _ _ _ _ _ _ _ _ _ _ rfl) (by simp [Value.oneCell']) (by omega) (by unfold maxLen; omega) (by omega) (by simp; omega) (w4.heap.size + 1) (by simp) ?_
       intro gg cap1 w5 hown1 hgrow hat hlt1
       have lo := HO.lt
       have f5 : w5.heap[F]? = some (.cells #[.slice aK KL.length cK, .slice q5 acc.length c5] 26) := (hgrow.block F (by rw [World.size_alloc]; omega) (fun e => by have := (lo F e.symm).1; omega)).trans (zK f4 _)
       obtain ⟨⟨n0, n1⟩, n2, n3⟩ := yk f5
       have NI := zx (RowR.snoc (zy HI) (by omega) (by omega) (by omega) (by omega) (by omega) B4 (zy HBU4) (zy HE4) (zy HRD4) (zy HRU) hown1 hgrow (by rcases hat with h | h; exact .inl h; exact .inr (by simp [h])))
       clear g0 g1 g1' k0 k1 f4 hgrow hat hlt1 hown1 HO lo
       refine hK.out _ _ trivial (fun hHeld => ?_)
       clear hK K
       try simp only [pls]
       refine tkh 9 ?_ rfl (by kernel_rfl) (fun _ _ _ h => h) ?_ (by assumption) ?_
       rotate_left
       ·intro w hSw; (try dsimp only at hSw); go_simp; (try with_reducible rfl)
       try simp only [pls]
       refine wpAnyH_ready (rs := [10]) (by kernel_rfl) (by simp) ?_
       refine AllReadyH.cons rfl (fun K hK => ?_) AllReadyH.nil
       go_simp
       refine hK.out _ _ trivial (fun hHeld => ?_)
       clear hK K
       try simp only [pls]
       refine wpAnyH_done (by kernel_rfl) ?_ _
       go_wp2_with fail
       go_roundw
       case rel =>
        refine ⟨acc ++ [u4], r4, f', _, _, zy STEP, by omega, by omega, by rw [List.length_append, List.length_singleton]; omega, zy NI⟩
       case measure => rw [(zy NI).rd.left, (zy HI).rd.left]; exact hl4
      ·have FIN : Hid (YV r = .inl (q4, y4)) := by show _ = _; rw [zy ST, zy HS, vz (.inr (zy HZ)) eu]
       have BF := zx ((Bu2.bu (zy BU2) (zy HI).bu (by omega)).then ((Bu.of (zw b3 (zk (k := 1) (w := w3) (B := w3.heap.size)))).then bu4))
       clear eu
       unfold xj
       go_wp2_with fail
       exact ⟨rfl, .inr ⟨q4, y4, zy FIN, rfl, zy BF⟩⟩
     ·go_simp
      refine (zy CU _ (zw b3 zk)).mono ?_
      clear CU
      rintro e w4 (⟨v4, u4, r4, eu, rfl, ru4, E4, hl4, rd4, bu4⟩ | ⟨q4, y4, eu, rfl, bu4⟩)
      ·have STEP : Hid (xW (r.length + 1) [] r1 = xW f' (acc ++ [u4]) r4) := (zy HS).trans (kx (.inr (zy HZ)) eu)
       have hmost := ZX eu
       have B4 := zw b3 (zk (k := 1) (w := w3) (B := w3.heap.size))
       have HRU := zx ru4
       obtain ⟨z0, z1, z2, z3, z4, z5, z6, z7, z8, z9, z10, z11, z12, z13, z14, rfl⟩ := ru4.form
       have HO := vw (ju B4 (zy HI).own) bu4 (by omega)
       have hs4 := bu4.size
       have hs3 := B4.size
       have hs0 := (zy HI).bu.size
       have f4 : w4.heap[F]? = some (.cells #[.slice aK KL.length cK, .slice q5 acc.length c5] 26) := bu4.at ((B4.block F hlF).trans (zy HI).fb) (by omega)
       obtain ⟨⟨g0, g1⟩, k0, k1⟩ := yk f4
       have g1' : ∀ o, (w4.alloc o).cell? ⟨F, 1, none⟩ = some (.slice q5 acc.length c5) := fun o => ((Below.new1 o).cell (zY g1)).trans g1
       have hF4 : F < w4.heap.size := (Array.getElem?_eq_some_iff.1 f4).1
       have HBU4 := zx bu4
       have HRD4 := zx rd4
       have HE4 := zx E4
       obtain ⟨ti, hi0, hz0, hz1, hz2⟩ := info_parts ZQ
       clear ru4 bu4 rd4 E4 eu
       (try clear CS)
       refine hK.out _ _ trivial (fun hHeld => ?_)
       clear hK K
       try simp only [pls]
       refine wpAnyH_ready (rs := [1, 7]) (by kernel_rfl) (by simp) ?_
       refine AllReadyH.cons rfl (fun K hK => ?_) (AllReadyH.cons rfl (fun K hK => ?_) AllReadyH.nil)
       ·go_simp
        refine hK.out _ _ trivial (fun hHeld => ?_)
        clear hK K
        try simp only [pls]
        refine wpAnyH_ready (rs := [7]) (by kernel_rfl) (by simp) ?_
        refine AllReadyH.cons rfl (fun K hK => ?_) AllReadyH.nil
        go_simp
        refine hK.out _ _ trivial (fun hHeld => ?_)
        clear hK K
        try simp only [pls]
        refine wpAnyH_ready (rs := [8]) (by kernel_rfl) (by simp) ?_
        refine AllReadyH.cons rfl (fun K hK => ?_) AllReadyH.nil
        refine step_append_lies _ rfl _ _ 24 rfl w2.heap.size 42 ti _ 9 136 Tryz.underlying24 hi0 hz0 hz1 hz2 rfl (by omega) _ _ _ rfl (HO.alloc _) ⟨w4.heap.size, 0, none⟩ 1 1 [.string z0, .int .i64 z1, .int .i64 z2, .string z3, .slice z4 z5 z6, .slice z7 z8 z9, .int .i64 z10, .slice z11 z12 z13, .int .i64 z14] rfl rfl (vV _ _ _ _ _ _ _ _ _ _ _ rfl) (by simp [Value.oneCell']) (by omega) (by unfold maxLen; omega) (by omega) (by simp; omega) (w4.heap.size + 1) (by simp) ?_
        intro gg cap1 w5 hown1 hgrow hat hlt1
        have lo := HO.lt
        have f5 : w5.heap[F]? = some (.cells #[.slice aK KL.length cK, .slice q5 acc.length c5] 26) := (hgrow.block F (by rw [World.size_alloc]; omega) (fun e => by have := (lo F e.symm).1; omega)).trans (zK f4 _)
        obtain ⟨⟨n0, n1⟩, n2, n3⟩ := yk f5
        have NI := zx (RowR.snoc (zy HI) (by omega) (by omega) (by omega) (by omega) (by omega) B4 (zy HBU4) (zy HE4) (zy HRD4) (zy HRU) hown1 hgrow (by rcases hat with h | h; exact .inl h; exact .inr (by simp [h])))
        clear g0 g1 g1' k0 k1 f4 hgrow hat hlt1 hown1 HO lo
        refine hK.out _ _ trivial (fun hHeld => ?_)
        clear hK K
        try simp only [pls]
        refine tkh 9 ?_ rfl (by kernel_rfl) (fun _ _ _ h => h) ?_ (by assumption) ?_
        rotate_left
        ·intro w hSw; (try dsimp only at hSw); go_simp; (try with_reducible rfl)
        try simp only [pls]
        refine wpAnyH_ready (rs := [10]) (by kernel_rfl) (by simp) ?_
        refine AllReadyH.cons rfl (fun K hK => ?_) AllReadyH.nil
        go_simp
        refine hK.out _ _ trivial (fun hHeld => ?_)
        clear hK K
        try simp only [pls]
        refine wpAnyH_done (by kernel_rfl) ?_ _
        go_wp2_with fail
        go_roundw
        case rel =>
         refine ⟨acc ++ [u4], r4, f', _, _, zy STEP, by omega, by omega, by rw [List.length_append, List.length_singleton]; omega, zy NI⟩
        case measure => rw [(zy NI).rd.left, (zy HI).rd.left]; exact hl4
       ·go_simp
        refine hK.out _ _ trivial (fun hHeld => ?_)
        clear hK K
        try simp only [pls]
        refine wpAnyH_ready (rs := [1]) (by kernel_rfl) (by simp) ?_
        refine AllReadyH.cons rfl (fun K hK => ?_) AllReadyH.nil
        go_simp
        refine hK.out _ _ trivial (fun hHeld => ?_)
        clear hK K
        try simp only [pls]
        refine wpAnyH_ready (rs := [8]) (by kernel_rfl) (by simp) ?_
        refine AllReadyH.cons rfl (fun K hK => ?_) AllReadyH.nil
        refine step_append_lies _ rfl _ _ 24 rfl w2.heap.size 42 ti _ 9 136 Tryz.underlying24 hi0 hz0 hz1 hz2 rfl (by omega) _ _ _ rfl (HO.alloc _) ⟨w4.heap.size, 0, none⟩ 1 1 [.string z0, .int .i64 z1, .int .i64 z2, .string z3, .slice z4 z5 z6, .slice z7 z8 z9, .int .i64 z10, .slice z11 z12 z13, .int .i64 z14] rfl rfl (vV _ _ _ _ _ _ _ _ _ _ _ rfl) (by simp [Value.oneCell']) (by omega) (by unfold maxLen; omega) (by omega) (by simp; omega) (w4.heap.size + 1) (by simp) ?_
        intro gg cap1 w5 hown1 hgrow hat hlt1
        have lo := HO.lt
        have f5 : w5.heap[F]? = some (.cells #[.slice aK KL.length cK, .slice q5 acc.length c5] 26) := (hgrow.block F (by rw [World.size_alloc]; omega) (fun e => by have := (lo F e.symm).1; omega)).trans (zK f4 _)
        obtain ⟨⟨n0, n1⟩, n2, n3⟩ := yk f5
        have NI := zx (RowR.snoc (zy HI) (by omega) (by omega) (by omega) (by omega) (by omega) B4 (zy HBU4) (zy HE4) (zy HRD4) (zy HRU) hown1 hgrow (by rcases hat with h | h; exact .inl h; exact .inr (by simp [h])))
        clear g0 g1 g1' k0 k1 f4 hgrow hat hlt1 hown1 HO lo
        refine hK.out _ _ trivial (fun hHeld => ?_)
        clear hK K
        try simp only [pls]
        refine tkh 9 ?_ rfl (by kernel_rfl) (fun _ _ _ h => h) ?_ (by assumption) ?_
        rotate_left
        ·intro w hSw; (try dsimp only at hSw); go_simp; (try with_reducible rfl)
        try simp only [pls]
        refine wpAnyH_ready (rs := [10]) (by kernel_rfl) (by simp) ?_
        refine AllReadyH.cons rfl (fun K hK => ?_) AllReadyH.nil
        go_simp
        refine hK.out _ _ trivial (fun hHeld => ?_)
        clear hK K
        try simp only [pls]
        refine wpAnyH_done (by kernel_rfl) ?_ _
        go_wp2_with fail
        go_roundw
        case rel =>
         refine ⟨acc ++ [u4], r4, f', _, _, zy STEP, by omega, by omega, by rw [List.length_append, List.length_singleton]; omega, zy NI⟩
        case measure => rw [(zy NI).rd.left, (zy HI).rd.left]; exact hl4
      ·have FIN : Hid (YV r = .inl (q4, y4)) := by show _ = _; rw [zy ST, zy HS, vz (.inr (zy HZ)) eu]
       have BF := zx ((Bu2.bu (zy BU2) (zy HI).bu (by omega)).then ((Bu.of (zw b3 (zk (k := 1) (w := w3) (B := w3.heap.size)))).then bu4))
       clear eu
       unfold xj
       go_wp2_with fail
       exact ⟨rfl, .inr ⟨q4, y4, zy FIN, rfl, zy BF⟩⟩
end Go.Proofs.YtnfgobgflcmepaaGreatDoor.R
namespace Go.Proofs.YtnfgobgflcmepaaGreatDoor.F
open Go.RowKit Go.Proofs.YtnfgobgflcmepaaGreatDoor.T Go.Proofs.YtnfgobgflcmepaaGreatDoor.R
theorem smP_up : ∀ (n m : Nat), n ≤ m → ∀ p, smP n p → smP m p := by
 intro n
 induction n with
 | zero => intro m _ p h; exact h.elim
 | succ n ih =>
  intro m hm p h
  cases m with
  | zero => omega
  | succ m =>
   obtain ⟨h1, h2, h3, h4⟩ := h
   exact ⟨h1, h2, h3, fun x hx => ih m (by omega) x (h4 x hx)⟩
def RuleN (n : Nat) (B : Nat) (w : World) (v : Value) (u : RU) : Prop :=
 ∃ x0 x1 x2 x3 x4 a c, v = .agg #[.string (strOfNums u.1), .int .i64 u.2.1, x0, x1, x2, x3, x4, .slice a u.2.2.2.1.length c, .int .i64 u.2.2.2.2] ∧ U.zq u.1 ∧ zW u.2.1 ∧ PartB B n w (.agg #[x0, x1, x2, x3, x4]) u.2.2.1 ∧ Rs w a u.2.2.2.1.length c u.2.2.2.1 ∧ Lo B a u.2.2.2.1.length ∧ zW u.2.2.2.2
theorem RuleN.up {n m : Nat} (h : n ≤ m) {B : Nat} {w : World} {v : Value} {u : RU} (k : RuleN n B w v u) : RuleN m B w v u := by
 obtain ⟨x0, x1, x2, x3, x4, a, c, e, h1, h2, h3, h4⟩ := k
 exact ⟨x0, x1, x2, x3, x4, a, c, e, h1, h2, PartB.up n m h _ _ h3, h4⟩
theorem RuleN.kept {n : Nat} {B B' : Nat} {w X : World} {v : Value} {u : RU} (h : RuleN n B w v u) (k : ∀ g, g < B → g < B' ∧ X.heap[g]? = w.heap[g]?) (kr : KR w X) : RuleN n B' X v u := by
 obtain ⟨x0, x1, x2, x3, x4, a, c, e, h1, h2, h3, h4, h5, h6⟩ := h
 obtain ⟨h4', h5'⟩ := rs_lo k h4 h5
 exact ⟨x0, x1, x2, x3, x4, a, c, e, h1, h2, PartB.kept k kr n _ _ h3, h4', h5', h6⟩
theorem rules_n {D : Nat → Prop} {w : World} (hD : ∀ g, D g → g < w.heap.size) : ∀ (l : List RU) (cs : List Value), RuC (RuleV D w) l cs → ∃ n, RuC (RuleN n w.heap.size w) l cs := by
 intro l
 induction l with
 | nil => intro cs h; exact ⟨0, h⟩
 | cons u l ih =>
  intro cs h
  obtain ⟨x0, x1, x2, x3, x4, x5, x6, x7, x8, cs', e, hv, ht⟩ := h
  obtain ⟨n, hn⟩ := ih _ ht
  obtain ⟨y0, y1, y2, y3, y4, a, c, e1, h1, h2, ⟨k, h3⟩, h4, h5, h6⟩ := hv
  exact ⟨max n k, x0, x1, x2, x3, x4, x5, x6, x7, x8, cs', e, ⟨y0, y1, y2, y3, y4, a, c, e1, h1, h2, PartB.up k _ (Nat.le_max_right ..) _ _ (PartB.of hD _ _ _ h3), h4, ty_lo h5 _, h6⟩, RuC.mono (fun v p hp => hp.up (Nat.le_max_left ..)) _ _ hn⟩
theorem RuC.at {P : Value → RU → Prop} : ∀ (l : List RU) (cs : List Value) (j : Nat), RuC P l cs → j < l.length → ∃ c0 c1 c2 c3 c4 c5 c6 c7 c8 u, cs[9 * j]? = some c0 ∧ cs[9 * j + 1]? = some c1 ∧ cs[9 * j + 2]? = some c2 ∧ cs[9 * j + 3]? = some c3 ∧ cs[9 * j + 4]? = some c4 ∧ cs[9 * j + 5]? = some c5 ∧ cs[9 * j + 6]? = some c6 ∧ cs[9 * j + 7]? = some c7 ∧ cs[9 * j + 8]? = some c8 ∧ P (.agg #[c0, c1, c2, c3, c4, c5, c6, c7, c8]) u ∧ l.drop j = u :: l.drop (j + 1) ∧ u ∈ l := by
 intro l
 induction l with
 | nil => intro cs j _ hj; simp at hj
 | cons x l ih =>
  intro cs j h hj
  obtain ⟨c0, c1, c2, c3, c4, c5, c6, c7, c8, cs', rfl, hv, ht⟩ := h
  cases j with
  | zero => exact ⟨c0, c1, c2, c3, c4, c5, c6, c7, c8, x, rfl, rfl, rfl, rfl, rfl, rfl, rfl, rfl, rfl, hv, rfl, List.mem_cons_self ..⟩
  | succ j =>
   obtain ⟨d0, d1, d2, d3, d4, d5, d6, d7, d8, u, h0, h1, h2, h3, h4, h5, h6, h7, h8, hp, hd, hm⟩ := ih cs' j ht (by simp at hj; omega)
   have key : ∀ (i : Nat) (v : Value), cs'[9 * j + i]? = some v → (c0 :: c1 :: c2 :: c3 :: c4 :: c5 :: c6 :: c7 :: c8 :: cs')[9 * (j + 1) + i]? = some v := fun i v hv => by
    rw [show 9 * (j + 1) + i = (9 * j + i) + 1 + 1 + 1 + 1 + 1 + 1 + 1 + 1 + 1 by omega]
    simpa using hv
   exact ⟨d0, d1, d2, d3, d4, d5, d6, d7, d8, u, key 0 _ h0, key 1 _ h1, key 2 _ h2, key 3 _ h3, key 4 _ h4, key 5 _ h5, key 6 _ h6, key 7 _ h7, key 8 _ h8, hp, by simpa using hd, List.mem_cons_of_mem _ hm⟩
theorem rules_at {B n : Nat} {w : World} {a : Option Addr} {len cap : Nat} {L : List RU} {cs : List Value} (hr : Row5 (fun g => g < B) w a len cap cs) (hc : RuC (RuleN n B w) L cs) (j : Nat) (hj : j < L.length) :
  ∃ g off k S a1 n1 c1 a2 n2 c2 aN cN u, a = some ⟨g, off, none⟩ ∧ g < w.heap.size ∧ w.cell? ⟨g, off + 9 * j, none⟩ = some (.string (strOfNums u.1)) ∧ w.cell? ⟨g, off + 9 * j + 1, none⟩ = some (.int .i64 u.2.1) ∧ w.cell? ⟨g, off + 9 * j + 2, none⟩ = some (.int .i64 k) ∧ w.cell? ⟨g, off + 9 * j + 3, none⟩ = some (.string S) ∧ w.cell? ⟨g, off + 9 * j + 4, none⟩ = some (.slice a1 n1 c1) ∧ w.cell? ⟨g, off + 9 * j + 5, none⟩ = some (.slice a2 n2 c2) ∧ w.cell? ⟨g, off + 9 * j + 6, none⟩ = some (.int .i64 (atP u.2.2.1)) ∧ w.cell? ⟨g, off + 9 * j + 7, none⟩ = some (.slice aN u.2.2.2.1.length cN) ∧ w.cell? ⟨g, off + 9 * j + 8, none⟩ = some (.int .i64 u.2.2.2.2) ∧
   PartB B n w (.agg #[.int .i64 k, .string S, .slice a1 n1 c1, .slice a2 n2 c2, .int .i64 (atP u.2.2.1)]) u.2.2.1 ∧ U.zq u.1 ∧ Rs w aN u.2.2.2.1.length cN u.2.2.2.1 ∧ Lo B aN u.2.2.2.1.length ∧ L.drop j = u :: L.drop (j + 1) ∧ u ∈ L := by
 obtain ⟨d0, d1, d2, d3, d4, d5, d6, d7, d8, u, h0, h1, h2, h3, h4, h5, h6, h7, h8, hv, hd, hm⟩ := RuC.at L cs j hc hj
 obtain ⟨x0, x1, x2, x3, x4, aN, cN, ev, q1, q2, q3, q4, q5, q6⟩ := hv
 simp only [Value.agg.injEq, Array.mk.injEq, List.cons.injEq, and_true] at ev
 obtain ⟨rfl, rfl, rfl, rfl, rfl, rfl, rfl, rfl, rfl⟩ := ev
 obtain ⟨k, S, a1, n1, c1, a2, n2, c2, rfl, rfl, rfl, rfl, rfl, -⟩ := PartB.form q3
 obtain ⟨g, off, ha, -, q0⟩ := hr.2.2 _ _ h0
 have key : ∀ i u, cs[9 * j + i]? = some u → w.cell? ⟨g, off + 9 * j + i, none⟩ = some u := fun i u hu => by
  obtain ⟨g', off', ha', -, q⟩ := hr.2.2 _ _ hu
  rw [ha] at ha'
  injection ha' with ha'
  injection ha' with e1 e2
  subst e1; subst e2
  rw [Nat.add_assoc]; exact q
 exact ⟨g, off, k, S, a1, n1, c1, a2, n2, c2, aN, cN, u, ha, zY q0, q0, key 1 _ h1, key 2 _ h2, key 3 _ h3, key 4 _ h4, key 5 _ h5, key 6 _ h6, key 7 _ h7, key 8 _ h8, q3, q1, q4, q5, hd, hm⟩
theorem ruleA_or {ns : List (List Int)} {n : Nat} {p : PT} {m : Mk} (h : kdP p = 5) : kj ns n p m = qu (zX ns n 0) (psP p) m [] := by unfold kj; rw [if_pos h]
theorem ruleA_one {ns : List (List Int)} {n : Nat} {p : PT} {m : Mk} (h : kdP p ≠ 5) : kj ns n p m = ((zX ns n 0 m [] p).1, [(zX ns n 0 m [] p).2]) := by unfold kj; rw [if_neg h]
theorem frule_l {ns : List (List Int)} {n : Nat} {D : Nat → Prop} {w : World} {B b m : Nat} {s : Mk} (pv : Value) (p : PT) (hB : B ≤ w.heap.size) (hD : ∀ k, w.heap.size ≤ k → D k) (h : Mak D w B b m ns 0 s) (hp : PartB B n w pv p) (hs : smP n p) :
  Calls Tryz.prog 84 #[.pointer (some ⟨b, 0, none⟩), pv] w (AlR D B b m ns 0 w (kj ns n p s)) := by
 obtain ⟨mv, hm⟩ := h
 have B1 : ∀ o, Below w.heap.size w (w.alloc o) := fun o => Below.new1 o
 have CE := zx (fun W (bW : Below w.heap.size w W) => feach_l (part_c ns n 0) (D := D) (w := W) pv p 0 0 none 0 0 (by have := bW.size; omega) (fun k hk => hD k (by have := bW.size; omega)) ⟨mv, hm.later bW⟩ (PartB.kept (fun g hg => ⟨hg, bW.block g (by omega)⟩) (KR.of bW) (n + 1) _ p (PartB.up n (n + 1) (Nat.le_succ n) _ _ hp)) (smP_up n (n + 1) (Nat.le_succ n) p hs))
 have CP := zx (fun W (bW : Below w.heap.size w W) => part_c ns n 0 D W B b m s (.slice none 0 0) [] pv p (by have := bW.size; omega) (fun k hk => hD k (by have := bW.size; omega)) ⟨mv, (hm.later bW).weak (fun g _ hd => ⟨hd, by simp [Value.ownBlock]⟩)⟩ (LV.nil _ _) (PartB.kept (fun g hg => ⟨hg, bW.block g (by omega)⟩) (KR.of bW) n _ p hp) hs)
 obtain ⟨k, S, a1, n1, c1, a2, n2, c2, q, rfl, hk, -⟩ := jz (PartB.up n (n + 1) (Nat.le_succ n) _ _ hp)
 have HDD := zx hD
 have hlt := hm.lt
 by_cases h5 : k = 5
 ·have FIN : Hid (kj ns n p s = qu (zX ns n 0) (psP p) s []) := ruleA_or (hk.symm.trans h5)
  have hbb : (k == 5) = true := by rw [h5]; rfl
  clear hm hp hs hD hk h5 CP
  generalize qu (zX ns n 0) (psP p) s [] = r at *
  go_enter Tryz.func84, Tryz.ntmps84
  go_wp2_with fail
  refine (zy CE _ (B1 _)).mono ?_
  clear CE
  rintro e w1 ⟨av, rfl, alt1, mk1, fl1, l9⟩
  obtain ⟨va1, va2, rfl, -, -⟩ := alt1.form
  have RES := zx (show AlR D B b m ns 0 w r (.returned (.slice va1 r.2.length va2)) w1 from ⟨_, rfl, alt1, mk1, (Fl.of (x := none) (B1 _)).then fl1 (fun g e => by cases e), l9⟩)
  clear alt1 mk1 fl1 l9
  go_wp2_with fail
  go_ret
  rw [zy FIN]
  exact zy RES
 ·have FIN : Hid (kj ns n p s = ((zX ns n 0 s [] p).1, [(zX ns n 0 s [] p).2])) := ruleA_one (fun c => h5 (hk.trans c))
  have hbb : (k == 5) = false := beq_eq_false_iff_ne.2 h5
  clear hm hp hs hD hk h5 CE
  generalize zX ns n 0 s [] p = r at *
  go_enter Tryz.func84, Tryz.ntmps84
  go_wp2_with fail
  refine (zy CP _ (B1 _)).mono ?_
  clear CP
  rintro e w1 lf
  have lf := lf.mono_w (Fl.of (x := none) (B1 _))
  obtain ⟨v1, rfl, lv1, ⟨mv1, mk1⟩, fl1, nx1⟩ := lf
  have s1 := fl1.size
  have I1 := zx (show InvL D B b m ns 0 (.slice none 0 0) w r.1 v1 r.2 w1 from ⟨lv1, ⟨mv1, mk1⟩, fl1, nx1⟩)
  obtain ⟨ya, yc, rfl⟩ := lv1.form
  clear lv1 mk1 fl1 nx1
  go_wp2_with fail
  go_ret
  rw [zy FIN]
  obtain ⟨lv, ⟨mv3, mk3⟩, fl3, nx3⟩ := (zy I1).more (Below.new1 (.cells #[.slice ya r.2.length yc] 46))
  exact ⟨_, rfl, AltV.one (Kp.weak _ (fun _ h => h)) (lv.symsN nx3 (zy HDD)) (heap_alloc_new _ _) (zy HDD _ s1), ⟨mv3, mk3.weak (fun g _ hd => hd.1)⟩, fl3, by simp⟩
end Go.Proofs.YtnfgobgflcmepaaGreatDoor.F
