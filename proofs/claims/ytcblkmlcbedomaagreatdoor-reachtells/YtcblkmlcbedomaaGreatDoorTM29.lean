/- Parts of the proof that stand ahead of it (T 29). -/
import Derived.Test.YtcblkmlcbedomaaGreatDoorTM28
set_option linter.unusedVariables false
set_option linter.unusedSimpArgs false
set_option maxRecDepth 20000
set_option maxHeartbeats 16000000
namespace Go.Proofs.YtcblkmlcbedomaaGreatDoor.R
open Go.RowKit Go.Proofs.YtcblkmlcbedomaaGreatDoor.T
theorem Z4 {W:World} {g:Nat} {x0 x1 x2 x3 x4 x5 x6 x7 x8:Value} {t:TypeId} (h:W.heap[g]? =some (.cells #[x0,x1,x2,x3,x4,x5,x6,x7,x8] t)):
  (W.cell? ⟨g,0,none⟩=some x0∧W.cell? ⟨g,1,none⟩=some x1∧W.cell? ⟨g,2,none⟩=some x2∧W.cell? ⟨g,3,none⟩=some x3∧W.cell? ⟨g,4,none⟩=some x4∧W.cell? ⟨g,5,none⟩=some x5∧W.cell? ⟨g,6,none⟩=some x6∧W.cell? ⟨g,7,none⟩=some x7∧W.cell? ⟨g,8,none⟩=some x8)∧
  (W.frozen? ⟨g,0,none⟩=false∧W.frozen? ⟨g,1,none⟩=false∧W.frozen? ⟨g,2,none⟩=false∧W.frozen? ⟨g,3,none⟩=false∧W.frozen? ⟨g,4,none⟩=false∧W.frozen? ⟨g,5,none⟩=false∧W.frozen? ⟨g,6,none⟩=false∧W.frozen? ⟨g,7,none⟩=false∧W.frozen? ⟨g,8,none⟩=false):=by
 refine⟨⟨?_,?_,?_,?_,?_,?_,?_,?_,?_⟩,?_,?_,?_,?_,?_,?_,?_,?_,?_⟩<;>simp[World.cell?,World.frozen?,h]
theorem set9_at {W:World} {g:Nat} {y0 y1 y2 y3 y4 y5 y6 y7 y8:Value} {t:TypeId} (h:W.heap[g]? =some (.cells #[y0,y1,y2,y3,y4,y5,y6,y7,y8] t)) (x0 x1 x2 x3 x4 x5 x6 x7 x8:Value):
  ((((((((((((((((((W).setCell ⟨g,0,none⟩ x0)).setCell ⟨g,1,none⟩ x1)).setCell ⟨g,2,none⟩ x2)).setCell ⟨g,3,none⟩ x3)).setCell ⟨g,4,none⟩ x4)).setCell ⟨g,5,none⟩ x5)).setCell ⟨g,6,none⟩ x6)).setCell ⟨g,7,none⟩ x7)).setCell ⟨g,8,none⟩ x8).heap[g]? =some (.cells #[x0,x1,x2,x3,x4,x5,x6,x7,x8] t):=by
 have h0:=heap_setCell_same W g 0 _ t x0 h
 have h1:=heap_setCell_same _ g 1 _ t x1 h0
 have h2:=heap_setCell_same _ g 2 _ t x2 h1
 have h3:=heap_setCell_same _ g 3 _ t x3 h2
 have h4:=heap_setCell_same _ g 4 _ t x4 h3
 have h5:=heap_setCell_same _ g 5 _ t x5 h4
 have h6:=heap_setCell_same _ g 6 _ t x6 h5
 have h7:=heap_setCell_same _ g 7 _ t x7 h6
 have h8:=heap_setCell_same _ g 8 _ t x8 h7
 simpa using h8
theorem set9_other {W:World} {g k:Nat} (hn:k≠g) (x0 x1 x2 x3 x4 x5 x6 x7 x8:Value):((((((((((((((((((W).setCell ⟨g,0,none⟩ x0)).setCell ⟨g,1,none⟩ x1)).setCell ⟨g,2,none⟩ x2)).setCell ⟨g,3,none⟩ x3)).setCell ⟨g,4,none⟩ x4)).setCell ⟨g,5,none⟩ x5)).setCell ⟨g,6,none⟩ x6)).setCell ⟨g,7,none⟩ x7)).setCell ⟨g,8,none⟩ x8).heap[k]? =W.heap[k]? :=by
 simp only[Below.heap_setCell _ _ _ k (show k≠(⟨g,_,none⟩:Addr).block from hn)]
theorem Bu.set9 {b:Nat} {w W:World} (h:Bu b w W) {g:Nat} (hg:w.heap.size≤g) (x0 x1 x2 x3 x4 x5 x6 x7 x8:Value):Bu b w ((((((((((((((((((W).setCell ⟨g,0,none⟩ x0)).setCell ⟨g,1,none⟩ x1)).setCell ⟨g,2,none⟩ x2)).setCell ⟨g,3,none⟩ x3)).setCell ⟨g,4,none⟩ x4)).setCell ⟨g,5,none⟩ x5)).setCell ⟨g,6,none⟩ x6)).setCell ⟨g,7,none⟩ x7)).setCell ⟨g,8,none⟩ x8):=
 (((((((((h.setTop hg _ _).setTop hg _ _).setTop hg _ _).setTop hg _ _).setTop hg _ _).setTop hg _ _).setTop hg _ _).setTop hg _ _).setTop hg _ _)
theorem res_rule {fn:Func} {p:Tmp} (h:fn.results= #[.cell p 151]) {tmps:Array Value} {g:Nat} (hp:tmps.getD p undef= .pointer (some ⟨g,0,none⟩)) {X:World} {x0 x1 x2 x3 x4 x5 x6 x7 x8:Value} (hX:X.heap[g]? =some (.cells #[x0,x1,x2,x3,x4,x5,x6,x7,x8] 151)):
  (results fn tmps).run Tryz.prog X= .ok (.agg #[x0,x1,x2,x3,x4,x5,x6,x7,x8]) X:=by
 obtain⟨k0,k1,k2,k3,k4,k5,k6,k7,k8⟩:=(Z4 hX).1
 have hp2:tmps[p]?.getD undef= .pointer (some ⟨g,0,none⟩):=by rw[←hp];simp[Array.getD_eq_getD_getElem?]
 simp only[results,h]
 simp[hp2,go_sem,k0,k1,k2,k3,k4,k5,k6,k7,k8]
def RuleV (D:Nat→Prop) (w:World) (v:Value) (u:RU):Prop:=
 ∃x0 x1 x2 x3 x4 a c,v= .agg #[.string (strOfNums u.1),.int .i64 u.2.1,x0,x1,x2,x3,x4,.slice a u.2.2.2.1.length c,.int .i64 u.2.2.2.2]∧U.zv u.1∧yQ u.2.1∧PartE D w (.agg #[x0,x1,x2,x3,x4]) u.2.2.1∧Rs w a u.2.2.2.1.length c u.2.2.2.1∧Ty w a∧yQ u.2.2.2.2
theorem RuleV.kept {D D':Nat→Prop} {w X:World} {v:Value} {u:RU} (h:RuleV D w v u) (k:∀g,D g→D' g∧X.heap[g]? =w.heap[g]?) (kr:KR w X):RuleV D' X v u:=by
 obtain⟨x0,x1,x2,x3,x4,a,c,e,h1,h2,h3,h4,h5,h6⟩:=h
 obtain⟨h4',h5'⟩:=vK kr h4 h5
 exact⟨x0,x1,x2,x3,x4,a,c,e,h1,h2,h3.kept k kr,h4',h5',h6⟩
theorem rule_bad1 {n k1:Nat} {r r1:List TN} (hM:jZ r=(k1,r1)) (h:kd r1≠0):kz n r= .inl (pl r1,3):=by
 unfold kz;simp only[hM];rw[if_neg h]
theorem rule_many {n k1:Nat} {r r1:List TN} (hM:jZ r=(k1,r1)) (h:kd r1=0) (hn:n=16):kz n r= .inl (pl r1,7):=by
 unfold kz;simp only[hM];rw[if_pos h,if_pos hn]
theorem rule_bad2 {n k1:Nat} {r r1:List TN} (hM:jZ r=(k1,r1)) (h:kd r1=0) (hn:n≠16) (hs:isS r1.tail 61=false):kz n r= .inl (pl r1.tail,3):=by
 unfold kz;simp only[hM];rw[if_pos h,if_neg hn,hs];rfl
theorem rule_bad3 {n k1:Nat} {r r1:List TN} {e:Nat×Int} (hM:jZ r=(k1,r1)) (h:kd r1=0) (hn:n≠16) (hs:isS r1.tail 61=true) (ha:altL (jX 12) r1.tail.tail= .inl e):kz n r= .inl e:=by
 unfold kz;simp only[hM];rw[if_pos h,if_neg hn,if_pos hs,ha]
theorem rule_bad4 {n k1:Nat} {r r1 r5:List TN} {p:PT} {e:Nat×Int} (hM:jZ r=(k1,r1)) (h:kd r1=0) (hn:n≠16) (hs:isS r1.tail 61=true) (ha:altL (jX 12) r1.tail.tail= .inr (p,r5)) (hN:notL r5= .inl e):kz n r= .inl e:=by
 unfold kz;simp only[hM];rw[if_pos h,if_neg hn,if_pos hs,ha];simp only;rw[hN]
theorem rule_bad5 {n k1:Nat} {r r1 r5 r6:List TN} {p:PT} {N:List (Int×Int)} (hM:jZ r=(k1,r1)) (h:kd r1=0) (hn:n≠16) (hs:isS r1.tail 61=true) (ha:altL (jX 12) r1.tail.tail= .inr (p,r5)) (hN:notL r5= .inr (N,r6)) (h59:isS r6 59=false):kz n r= .inl (pl r6,3):=by
 unfold kz;simp only[hM];rw[if_pos h,if_neg hn,if_pos hs,ha];simp only;rw[hN];simp only;rw[h59];rfl
theorem rule_good {n k1:Nat} {r r1 r5 r6:List TN} {p:PT} {N:List (Int×Int)} (hM:jZ r=(k1,r1)) (h:kd r1=0) (hn:n≠16) (hs:isS r1.tail 61=true) (ha:altL (jX 12) r1.tail.tail= .inr (p,r5)) (hN:notL r5= .inr (N,r6)) (h59:isS r6 59=true):kz n r= .inr ((tx r1,(k1:Int),p,N,((pl r1:Nat):Int)),r6.tail):=by
 unfold kz;simp only[hM];rw[if_pos h,if_neg hn,if_pos hs,ha];simp only;rw[hN];simp only;rw[h59];rfl
def URES (b G m:Nat) (d:Int) (n:Nat) (w:World) (x:Res RU) (e:Ending) (w':World):Prop:=
 (∃v u r',x= .inr (u,r')∧e= .returned v∧RuleV (New w w') w' v u∧Ends r'∧r'.length<n∧Rd w' b G r' m d∧Bu b w w')∨(∃q why,x= .inl (q,why)∧e=xv q why∧Bu b w w')
theorem rule_l (w:World) (b G:Nat) (r:List TN) (m n:Nat) (hn:n≤16) (h:Rd w b G r m (dp 12)) (hr:Ends r) (hl:r.length≤1000) (hm:Mq w m):
  Calls Tryz.prog 101 #[.pointer (some ⟨b,0,none⟩),.int .i64 (n:Int)] w (URES b G m (dp 12) r.length w (kz n r)):=by
 have hbl:=h.lt
 have hGl:=h.ltG
 have HB:∀o,Below w.heap.size w (w.alloc o):=fun o=>Below.new1 o
 have CM:=zk (fun W (bW:Below w.heap.size w W)=>marks_l W b G r m (dp 12) (h.later bW) hr)
 have HST:=zk (And.intro h.cells hm)
 have CA:=zk alt_c
 have CNT:=zk (fun W r1 (k:Rd W b G r1 m (dp 12)) (e:Ends r1)=>not_l W b G r1 m (dp 12) k e)
 have CY:=zk (fun W r1 (k:Rd W b G r1 m (dp 12)) (e:Ends r1) (t:r1.tail≠[]) k0 x hx hk=>YQ W b G r1 m (dp 12) k e t k0 x hx hk)
 have CX:=zk (fun W r1 (k:Rd W b G r1 m (dp 12)) (e:Ends r1) k0 x hx hk=>need_no W b G r1 m (dp 12) k e k0 x hx hk)
 have CG1:=zk (fun W=>ZW ⟨#[61]⟩ W)
 have CG2:=zk (fun W=>ZW ⟨#[59]⟩ W)
 have e0:strOfNums []=⟨#[]⟩:=rfl
 have e61:strOfNums [61]=⟨#[61]⟩:=rfl
 have e59:strOfNums [59]=⟨#[59]⟩:=rfl
 have NB:U.zv []:=fun z hz=>by cases hz
 generalize hD0:dp 12=d0 at*
 have HD0:=zk hD0
 generalize hM:jZ r=MM at*
 obtain⟨k1,r1⟩:=MM
 have HM:=zk hM
 simp only at CM
 clear h hr hm hD0 hM
 go_enter Tryz.func101,Tryz.ntmps101
 go_wp2_with fail
 refine(zq CM _ (HB _)).mono ?_
 rintro e w1 ⟨rfl,hm63,E1,hl1,rd1,bu1⟩
 clear CM
 have BU1:=zk ((Bu.of (HB _)).then bu1)
 have OUT1:=bu1.at (heap_alloc_new w _) (show w.heap.size≠b by omega)
 clear bu1
 by_cases h1:kd r1=0
 case neg=>
  have FIN:=zk (rule_bad1 (n:=n) (zq HM) h1)
  have CN:=zk (zq CX w1 r1 rd1 E1 0 [] NB (need_kind' (by decide) h1))
  rw[e0]at CN
  clear h1 CA CNT CY CX CG1 CG2 OUT1 rd1 E1 e0 e61 e59
  go_wp2_with fail
  refine(zq CN).mono ?_
  rintro e w2 ⟨rfl,bu2⟩
  clear CN
  unfold xv
  go_wp2_with fail
  exact⟨rfl,.inr ⟨_,_,zq FIN,rfl,(zq BU1).then bu2⟩⟩
 have E2:=E1.tail (by rw[h1];decide)
 have hr1:=qj E1.ne
 have CN:=zk (zq CY w1 r1 rd1 E1 E2.ne 0 [] NB (need_kind (by decide) h1))
 rw[e0]at CN
 have HNB:=zk E1.bytes
 have HPL:=zk (vk E1.pl)
 have H1:=zk h1
 clear h1 rd1 E1
 go_wp2_with fail
 refine(zq CN).mono ?_
 rintro e w2 ⟨v2,rfl,⟨a2,c2,rfl,-,-⟩,rd2,bu2⟩
 clear CN
 have BU2:=zk ((zq BU1).then bu2)
 have OUT2:=bu2.at OUT1 (show w.heap.size≠b by omega)
 clear OUT1 BU1 bu2
 by_cases hn16:n=16
 case pos=>
  have FIN:=zk (rule_many (zq HM) (zq H1) hn16)
  have n16:((n:Int)==16)=true:=by rw[hn16];rfl
  clear CA CNT CY CX CG1 CG2 OUT2 rd2 E2 e0 e61 e59 hn16
  go_wp2_with fail
  exact⟨rfl,.inr ⟨_,_,zq FIN,rfl,(zq BU2).alloc _⟩⟩
 have n16:((n:Int)==16)=false:=beq_eq_false_iff_ne.2 (by omega)
 have HN16:=zk hn16
 have HB2:∀o,Below w2.heap.size w2 (w2.alloc o):=fun o=>Below.new1 o
 have hb2:=rd2.lt
 have s2:w.heap.size<w2.heap.size:=(Array.getElem?_eq_some_iff.1 OUT2).1
 clear hn16
 go_wp2_with fail
 refine(zq CG1 _).mono ?_
 rintro e w3 ⟨rfl,b3⟩
 clear CG1
 have T3:=ze b3
 have B3:=zY (HB2 _) b3
 have rd3:=rd2.later B3
 have BU3:=zk ((zq BU2).then (Bu.of B3))
 have OUT3:=(B3.block _ s2).trans OUT2
 clear rd2 BU2 OUT2 b3
 cases h61:isS r1.tail 61 with
 |false=>
  have FIN:=zk (rule_bad2 (n:=n) (zq HM) (zq H1) (zq HN16) h61)
  have CN:=zk (zq CX w3 r1.tail rd3 E2 4 [61] (yJ (by decide)) (need_sign' h61))
  rw[e61]at CN
  clear h61 CA CNT CY CX CG2 OUT3 rd3 E2 e0 e61 e59 T3
  go_wp2_with fail
  refine(zq CN).mono ?_
  rintro e w4 ⟨rfl,bu4⟩
  clear CN
  unfold xv
  go_wp2_with fail
  exact⟨rfl,.inr ⟨_,_,zq FIN,rfl,(zq BU3).then bu4⟩⟩
 |true=>
  have E3:=E2.sign h61
  have hr2:=qj E2.ne
  have CN:=zk (zq CY w3 r1.tail rd3 E2 E3.ne 4 [61] (yJ (by decide)) (need_sign h61))
  rw[e61]at CN
  have H61:=zk h61
  clear h61 rd3 E2
  go_wp2_with fail
  refine(zq CN).mono ?_
  rintro e w4 ⟨v4,rfl,tv4,rd4,bu4⟩
  clear CN tv4
  have BU4:=zk ((zq BU3).then bu4)
  have OUT4:=bu4.at OUT3 (show w.heap.size≠b by omega)
  have T4:=bu4.at T3 (show w2.heap.size≠b by omega)
  have s4:w2.heap.size<w4.heap.size:=(Array.getElem?_eq_some_iff.1 T4).1
  have MQ4:Mq w4 m:=(zq HST).2.bu (zq BU4) (zq HST).1.choose_spec.1
  have CAL:=zk (zq CA w4 b G r1.tail.tail m (by rw[zq HD0];exact rd4) E3 (by omega) MQ4)
  rw[zq HD0]at CAL
  clear OUT3 T3 BU3 bu4 rd4 MQ4 CA
  go_wp2_with fail
  refine(zq CAL).mono ?_
  clear CAL
  rintro e w5 (⟨v5,p5,r5,eg,rfl,pe5,E5,hl5,rd5,bu5⟩|⟨q5,y5,eg,rfl,bu5⟩)
  case inr=>
   have FIN:=zk (rule_bad3 (n:=n) (zq HM) (zq H1) (zq HN16) (zq H61) eg)
   clear CNT CY CX CG2 OUT4 T4 E3 e0 e61 e59 eg
   unfold xv
   go_wp2_with fail
   exact⟨rfl,.inr ⟨_,_,zq FIN,rfl,(zq BU4).then bu5⟩⟩
  have HEG:=zk eg
  have BU5:=zk ((zq BU4).then bu5)
  have OUT5:=bu5.at OUT4 (show w.heap.size≠b by omega)
  have T5:=bu5.at T4 (show w2.heap.size≠b by omega)
  have s5:=bu5.size
  have PE5:=zk pe5
  obtain⟨x1,x2,x3,x4,x5,x6,x7,x8,x9,rfl,-⟩:=pe5.form
  have HB5:∀o,Below w5.heap.size w5 (w5.alloc o):=fun o=>Below.new1 o
  have rdA:=rd5.later (HB5 (.cells #[.int .i64 x1,.string x2,.slice x3 x4 x5,.slice x6 x7 x8,.int .i64 x9] 149))
  have CNN:=zk (zq CNT _ r5 rdA E5)
  have OUTA:=zK OUT5 (.cells #[.int .i64 x1,.string x2,.slice x3 x4 x5,.slice x6 x7 x8,.int .i64 x9] 149)
  have TA:=zK T5 (.cells #[.int .i64 x1,.string x2,.slice x3 x4 x5,.slice x6 x7 x8,.int .i64 x9] 149)
  have PA:=heap_alloc_new w5 (.cells #[.int .i64 x1,.string x2,.slice x3 x4 x5,.slice x6 x7 x8,.int .i64 x9] 149)
  have hrc5:=zk rd5.cells
  have BUA:=zk ((zq BU5).alloc (.cells #[.int .i64 x1,.string x2,.slice x3 x4 x5,.slice x6 x7 x8,.int .i64 x9] 149))
  have hb5:=rd5.lt
  clear pe5 rd5 bu5 eg OUT4 T4 OUT5 T5 BU4 BU5 rdA CNT
  go_wp2_with fail
  refine(zq CNN).mono ?_
  clear CNN
  rintro e w6 (⟨aN,cN,N,r6,en,rfl,hrs,hys,E6,hl6,rd6,bu6⟩|⟨q6,y6,en,rfl,bu6⟩)
  case inr=>
   have FIN:=zk (rule_bad4 (n:=n) (zq HM) (zq H1) (zq HN16) (zq H61) (zq HEG) en)
   clear CY CX CG2 OUTA TA PA E3 e0 e61 e59 en
   unfold xv
   go_wp2_with fail
   exact⟨rfl,.inr ⟨_,_,zq FIN,rfl,(zq BUA).then bu6⟩⟩
  have HEN:=zk en
  have BU6:=zk ((zq BUA).then bu6)
  have OUT6:=bu6.at OUTA (show w.heap.size≠b by omega)
  have T6:=bu6.at TA (show w2.heap.size≠b by omega)
  have P6:=bu6.at PA (show w5.heap.size≠b by omega)
  have s6:=bu6.size
  rw[World.size_alloc]at s6
  have HRS:=zk (And.intro hrs hys)
  have HBU6:=zk bu6
  have hb6:=rd6.lt
  clear OUTA TA PA BUA bu6 en hrs hys
  go_wp2_with fail
  refine(zq CG2 _).mono ?_
  rintro e w7 ⟨rfl,b7⟩
  clear CG2
  have rd7:=rd6.later b7
  have BU7:=zk ((zq BU6).then (Bu.of b7))
  have OUT7:=(b7.block _ (Array.getElem?_eq_some_iff.1 OUT6).1).trans OUT6
  have T7:=(b7.block _ (Array.getElem?_eq_some_iff.1 T6).1).trans T6
  have P7:=(b7.block _ (Array.getElem?_eq_some_iff.1 P6).1).trans P6
  have hrc6:=zk rd6.cells
  clear OUT6 T6 P6 BU6 rd6
  cases h59:isS r6 59 with
  |false=>
   have FIN:=zk (rule_bad5 (n:=n) (zq HM) (zq H1) (zq HN16) (zq H61) (zq HEG) (zq HEN) h59)
   have CN:=zk (zq CX w7 r6 rd7 E6 4 [59] (yJ (by decide)) (need_sign' h59))
   rw[e59]at CN
   clear h59 CY CX OUT7 T7 P7 rd7 E6 e0 e61 e59
   go_wp2_with fail
   refine(zq CN).mono ?_
   rintro e w8 ⟨rfl,bu8⟩
   clear CN
   unfold xv
   go_wp2_with fail
   exact⟨rfl,.inr ⟨_,_,zq FIN,rfl,(zq BU7).then bu8⟩⟩
  |true=>
   have FIN:=zk (rule_good (n:=n) (zq HM) (zq H1) (zq HN16) (zq H61) (zq HEG) (zq HEN) h59)
   have E7:=E6.sign h59
   have hr6:=qj E6.ne
   have CN:=zk (zq CY w7 r6 rd7 E6 E7.ne 4 [59] (yJ (by decide)) (need_sign h59))
   rw[e59]at CN
   have HE7:=zk E7
   clear h59 CY CX rd7 E6 e0 e61 e59 E7 E3 E5
   go_wp2_with fail
   refine(zq CN).mono ?_
   rintro e w8 ⟨v8,rfl,tv8,rd8,bu8⟩
   clear CN tv8
   have BU8:=zk ((zq BU7).then bu8)
   have OUT8:=bu8.at OUT7 (show w.heap.size≠b by omega)
   have T8:=bu8.at T7 (show w2.heap.size≠b by omega)
   have P8:=bu8.at P7 (show w5.heap.size≠b by omega)
   have s7:=b7.size
   have s8:=bu8.size
   obtain⟨⟨t0,t1,t2,t3⟩,-⟩:=q9 T8
   obtain⟨⟨p0,p1,p2,p3,p4⟩,-⟩:=yW P8
   obtain⟨⟨o0,o1,o2,o3,o4,o5,o6,o7,o8⟩,f0,f1,f2,f3,f4,f5,f6,f7,f8⟩:=Z4 OUT8
   clear OUT7 T7 P7 BU7
   generalize hSX:strOfNums (tx r1)=SX at*
   have HSX:=zk hSX
   clear hSX
   go_wp2_with fail
   (try simp only[Exit.inBlock,Exit.then])
   have X9:=fun(k:Nat) (hk:k≠w.heap.size)=>set9_other (W:=w8) hk (.string SX) (.int .i64 (k1:Int)) (.int .i64 x1) (.string x2) (.slice x3 x4 x5) (.slice x6 x7 x8) (.int .i64 x9) (.slice aN N.length cN) (.int .i64 (pl r1:Nat))
   have KX:KR w8 ((((((((((((((((((w8).setCell ⟨w.heap.size,0,none⟩ (.string SX))).setCell ⟨w.heap.size,1,none⟩ (.int .i64 (k1:Int)))).setCell ⟨w.heap.size,2,none⟩ (.int .i64 x1))).setCell ⟨w.heap.size,3,none⟩ (.string x2))).setCell ⟨w.heap.size,4,none⟩ (.slice x3 x4 x5))).setCell ⟨w.heap.size,5,none⟩ (.slice x6 x7 x8))).setCell ⟨w.heap.size,6,none⟩ (.int .i64 x9))).setCell ⟨w.heap.size,7,none⟩ (.slice aN N.length cN))).setCell ⟨w.heap.size,8,none⟩ (.int .i64 (pl r1:Nat))):=fun g' cs fr hk=>by
    rw[X9 g' (yq hk OUT8 (by decide))];exact hk
   have K68:KR w6 w8:=(KR.of b7).then (KR.bu bu8 ((b7.block b hb6).trans (zq hrc6).choose_spec.1) (by decide))
   have K58:KR w5 w8:=((KR.of (HB5 _)).then (KR.bu (zq HBU6) (((HB5 _).block b hb5).trans (zq hrc5).choose_spec.1) (by decide))).then K68
   refine bodyPost_ret (v:= .agg #[(.string SX),(.int .i64 (k1:Int)),(.int .i64 x1),(.string x2),(.slice x3 x4 x5),(.slice x6 x7 x8),(.int .i64 x9),(.slice aN N.length cN),(.int .i64 (pl r1:Nat))]) ?_ rfl (.inl ⟨_,_,r6.tail,zq FIN,rfl,⟨.int .i64 x1,.string x2,.slice x3 x4 x5,.slice x6 x7 x8,.int .i64 x9,aN,cN,by rw[zq HSX],zq HNB,(show yQ (k1:Int) by unfold yQ;omega),?_,(vK (K68.then KX) (zq HRS).1 (zq HRS).2).1,(vK (K68.then KX) (zq HRS).1 (zq HRS).2).2,zq HPL⟩,zq HE7,by omega,?_,?_⟩)
   ·exact res_rule rfl rfl (set9_at OUT8 _ _ _ _ _ _ _ _ _)
   ·refine(zq PE5).kept (fun g hg=>⟨⟨by have:=hg.1;omega,by simp;have:=hg.2;omega⟩,?_⟩) (K58.then KX)
    obtain⟨g1,g2⟩:=hg
    rw[X9 g (by omega),bu8.block g (by omega) (fun e=>by injection e;omega),b7.block g (by omega),(zq HBU6).block g (by rw[World.size_alloc];omega) (fun e=>by injection e;omega),(HB5 _).block g g2]
   ·exact rd8.kept (X9 b (by omega)) (X9 G (by omega)) KX
   ·exact(zq BU8).set9 (Nat.le_refl _) _ _ _ _ _ _ _ _ _
def RuC (PV:Value→RU→Prop):List RU→List Value→Prop
 | [],cs=>cs=[]
 |p::ps,cs=>∃x0 x1 x2 x3 x4 x5 x6 x7 x8 cs',cs=x0::x1::x2::x3::x4::x5::x6::x7::x8::cs'∧PV (.agg #[x0,x1,x2,x3,x4,x5,x6,x7,x8]) p∧RuC PV ps cs'
theorem RuC.mono {P Q:Value→RU→Prop} (h:∀v p,P v p→Q v p):∀(ps:List RU) (cs:List Value),RuC P ps cs→RuC Q ps cs:=by
 intro ps
 induction ps with
 |nil=>intro cs hc;exact hc
 |cons x ps ih=>
  intro cs hc
  obtain⟨x0,x1,x2,x3,x4,x5,x6,x7,x8,cs',e,hv,hr⟩:=hc
  exact⟨x0,x1,x2,x3,x4,x5,x6,x7,x8,cs',e,h _ _ hv,ih _ hr⟩
theorem RuC.snoc {P:Value→RU→Prop} {p:RU} {x0 x1 x2 x3 x4 x5 x6 x7 x8:Value} (hv:P (.agg #[x0,x1,x2,x3,x4,x5,x6,x7,x8]) p):∀(ps:List RU) (cs:List Value),RuC P ps cs→RuC P (ps++[p]) (cs++[x0,x1,x2,x3,x4,x5,x6,x7,x8]):=by
 intro ps
 induction ps with
 |nil=>
  intro cs hc
  have:cs=[]:=hc
  subst this
  exact⟨x0,x1,x2,x3,x4,x5,x6,x7,x8,[],rfl,hv,rfl⟩
 |cons x ps ih=>
  intro cs hc
  obtain⟨d0,d1,d2,d3,d4,d5,d6,d7,d8,cs',e,hv',hr⟩:=hc
  exact⟨d0,d1,d2,d3,d4,d5,d6,d7,d8,cs'++[x0,x1,x2,x3,x4,x5,x6,x7,x8],by rw[e];rfl,hv',ih _ hr⟩
def RulesE (D:Nat→Prop) (w:World) (a:Option Addr) (len cap:Nat) (l:List RU):Prop:=∃cs,l.length=len∧Row5 D w a len cap cs∧RuC (RuleV D w) l cs
def FileV (D:Nat→Prop) (w:World) (v:Value) (f:List (List Int)×List RU):Prop:=
 ∃aK cK aR cR,v= .agg #[.slice aK f.1.length cK,.slice aR f.2.length cR]∧Ss D w aK f.1.length cK f.1∧RulesE D w aR f.2.length cR f.2
theorem own_row {w:World} {base sz:Nat} {T:TypeId} {a:Option Addr} {n c:Nat} {cs:List Value} (h:w.ownsRow base T sz (.slice a n c) n cs) (D:Nat→Prop) (hD:∀g,base≤g→g<w.heap.size→D g):Row5 D w a n c cs:=by
 rcases h.2 with ⟨e,h0⟩|⟨g,cap,cur,e,hb,hg,hn,hm,hs,ht⟩
 ·injection e with e1 e2 e3
  subst e1;subst e3
  have:cs=[]:=List.eq_nil_of_length_eq_zero (by rw[h.1,h0];simp)
  subst this
  exact⟨by omega,Nat.zero_le _,fun j u hu=>by simp at hu⟩
 ·injection e with e1 e2 e3
  subst e1;subst e3
  refine⟨hn,hm,fun j u hu=>⟨g,0,rfl,hD g hb (Array.getElem?_eq_some_iff.1 hg).1,?_⟩⟩
  rw[Nat.zero_add]
  simp only[World.cell?,hg]
  have hj:j<cs.length:=(List.getElem?_eq_some_iff.1 hu).1
  rw[←ht]at hu
  rw[List.getElem?_take_of_lt (by rw[h.1]at hj;omega)]at hu
  simpa using hu
structure Bu2 (b F:Nat) (w w':World):Prop where
 os:w'.os=w.os
 tape:w'.tape=w.tape
 output:w'.output=w.output
 size:w.heap.size≤w'.heap.size
 block:∀k,k<w.heap.size→k≠b→k≠F→w'.heap[k]? =w.heap[k]?
theorem Bu2.refl (b F:Nat) (w:World):Bu2 b F w w:=⟨rfl,rfl,rfl,Nat.le_refl _,fun _ _ _ _=>rfl⟩
theorem Bu2.bu {b F:Nat} {w W X:World} (h:Bu b w W) (k:Bu2 b F W X) (hF:w.heap.size≤F):Bu b w X:=
 ⟨k.os.trans h.os,k.tape.trans h.tape,k.output.trans h.output,Nat.le_trans h.size k.size,fun i hi hn=>(k.block i (Nat.lt_of_lt_of_le hi h.size) (fun e=>hn (by rw[e])) (by omega)).trans (h.block i hi hn)⟩
def OwnE (w wr:World) (v:Value):Nat→Prop:=fun g=>w.heap.size≤g∧g<wr.heap.size∧some g≠v.ownBlock
structure RowR (b G m F:Nat) (d:Int) (w2:World) (kv:Value) (acc:List RU) (rr:List TN) (v:Value) (cs:List Value) (wr:World):Prop where
 he:Ends rr
 rd:Rd wr b G rr m d
 mq:Mq wr m
 own:wr.ownsRow w2.heap.size 151 9 v acc.length cs
 pts:RuC (RuleV (OwnE w2 wr v) wr) acc cs
 bu:Bu2 b F w2 wr
 fb:wr.heap[F]? =some (.cells #[kv,v] 54)
theorem RowR.snoc {b G m F:Nat} {d:Int} {w2 wr w3 w4 w5:World} {kv:Value} {acc:List RU} {rr r4:List TN} {v:Value} {cs:List Value} (h:RowR b G m F d w2 kv acc rr v cs wr) (hb:b<w2.heap.size) (hG:G<w2.heap.size) (hF:F<w2.heap.size) (hbF:b≠F) (hGF:G≠F)
  (b3:Below wr.heap.size wr w3) (bu4:Bu b w3 w4) (he:Ends r4) (rd4:Rd w4 b G r4 m d) {u:RU} {x0 x1 x2 x3 x4 x5 x6 x7 x8:Value} (hp:RuleV (New w3 w4) w4 (.agg #[x0,x1,x2,x3,x4,x5,x6,x7,x8]) u) {o:Obj} {gg cap:Nat}
  (ho:w5.ownsRow w2.heap.size 151 9 (.slice (some ⟨gg,0,none⟩) (acc.length+1) cap) (acc.length+1) (cs++[x0,x1,x2,x3,x4,x5,x6,x7,x8])) (hg:(w4.alloc o).grownBy w5 v.ownBlock) (hat:v.ownBlock=some gg∨gg=(w4.alloc o).heap.size):
  RowR b G m F d w2 kv (acc++[u]) r4 (.slice (some ⟨gg,0,none⟩) (acc.length+1) cap) (cs++[x0,x1,x2,x3,x4,x5,x6,x7,x8]) (w5.setCell ⟨F,1,none⟩ (.slice (some ⟨gg,0,none⟩) (acc.length+1) cap)):=by
 obtain⟨-,rd,mq,own,pts,bu,fb⟩:=h
 have s0:=bu.size
 have s3:=b3.size
 have s4:=bu4.size
 have lo:∀k,v.ownBlock=some k→w2.heap.size≤k∧k<wr.heap.size:=own.lt
 have sA:(w4.alloc o).heap.size=w4.heap.size+1:=by simp
 have s5:=hg.size
 have hgg:w2.heap.size≤gg:=by
  rcases hat with h1|h1
  ·exact(lo gg h1).1
  ·omega
 have sc:∀g,g≠F→(w5.setCell ⟨F,1,none⟩ (.slice (some ⟨gg,0,none⟩) (acc.length+1) cap)).heap[g]? =w5.heap[g]? :=fun g hn=>Below.heap_setCell w5 ⟨F,1,none⟩ _ g hn
 have st:∀g,g<wr.heap.size→g≠b→some g≠v.ownBlock→w5.heap[g]? =wr.heap[g]? :=fun g h1 h2 h3=>by
  rw[hg.block g (by omega) h3,(Below.new1 o).block g (by omega),bu4.block g (by omega) (fun e=>h2 (by injection e)),b3.block g h1]
 have st4:∀g,w3.heap.size≤g→g<w4.heap.size→w5.heap[g]? =w4.heap[g]? :=fun g h1 h2=>by
  rw[hg.block g (by omega) (fun e=>by have:=(lo g e.symm).2;omega),(Below.new1 o).block g h2]
 obtain⟨rc,hrc,-⟩:=rd.cells
 have krA:KR w4 w5:=by
  refine(KR.of (Below.new1 o)).then (KR.grown hg fun k hk=> ?_)
  obtain⟨cs',hc⟩:=own_str own k hk
  have hkb:k≠b:=by have:=(lo k hk).1;omega
  exact⟨cs',151,_,zK (bu4.at ((b3.block k (lo k hk).2).trans hc) hkb) o,by decide⟩
 have krB:KR wr w4:=(KR.of b3).then (KR.bu bu4 ((b3.block b (by omega)).trans hrc) (by decide))
 have nbo:some b≠v.ownBlock:=fun e=>by have:=(lo b e.symm).1;omega
 have nGo:some G≠v.ownBlock:=fun e=>by have:=(lo G e.symm).1;omega
 have nFo:some F≠v.ownBlock:=fun e=>by have:=(lo F e.symm).1;omega
 have fb5:w5.heap[F]? =some (.cells #[kv,v] 54):=(st F (by omega) (fun e=>hbF e.symm) nFo).trans fb
 have krC:KR w5 (w5.setCell ⟨F,1,none⟩ (.slice (some ⟨gg,0,none⟩) (acc.length+1) cap)):=fun g cs' fr' hk=>by
  rw[sc g (yq hk fb5 (by decide))];exact hk
 refine⟨he,?_,?_,?_,?_,?_,?_⟩
 ·refine rd4.kept ?_ ?_ (krA.then krC)
  ·rw[sc b hbF,hg.block b (by omega) nbo,(Below.new1 o).block b (by omega)]
  ·rw[sc G hGF,hg.block G (by omega) nGo,(Below.new1 o).block G (by omega)]
 ·refine mq.kept fun ob h1 h2=> ?_
  have hm:=(Array.getElem?_eq_some_iff.1 h1).1
  have ne:∀k cs t fr,wr.heap[k]? =some (.cells cs t fr)→m≠k:=fun k cs t fr hk e=>by
   subst e;rw[hk]at h1;injection h1 with h1;exact h2 _ _ _ h1.symm
  rw[sc m (ne F _ _ _ fb),st m hm (ne b _ _ _ hrc) (fun e=>by
   obtain⟨cs',hc⟩:=own_str own m e.symm
   exact ne m _ _ _ hc rfl)]
  exact h1
 ·rw[List.length_append]
  exact ho.kept (w':=w5.setCell ⟨F,1,none⟩ (.slice (some ⟨gg,0,none⟩) (acc.length+1) cap)) (row:=some F) (Bu.set F 1 w5 _) (.inr (by simp only[Value.ownBlock,ne_eq,Option.some.injEq];omega))
 ·refine RuC.snoc (P:=RuleV (OwnE w2 (w5.setCell ⟨F,1,none⟩ (.slice (some ⟨gg,0,none⟩) (acc.length+1) cap)) (.slice (some ⟨gg,0,none⟩) (acc.length+1) cap)) (w5.setCell ⟨F,1,none⟩ (.slice (some ⟨gg,0,none⟩) (acc.length+1) cap))) ?_ acc cs (RuC.mono (fun u q hq=> ?_) _ _ pts)
  ·refine hp.kept (fun g hg'=>⟨⟨by have:=hg'.1;omega,by simp;have:=hg'.2;omega,?_⟩,?_⟩) (krA.then krC)
   ·intro e
    simp only[Value.ownBlock,Option.some.injEq]at e
    rcases hat with h1|h1
    ·have:=(lo gg h1).2;have:=hg'.1;omega
    ·have:=hg'.2;omega
   ·rw[sc g (by have:=hg'.1;omega)];exact st4 g hg'.1 hg'.2
  ·refine hq.kept (fun g hg'=>⟨⟨hg'.1,by simp;have:=hg'.2.1;omega,?_⟩,?_⟩) ((krB.then krA).then krC)
   ·intro e
    simp only[Value.ownBlock,Option.some.injEq]at e
    rcases hat with h1|h1
    ·exact hg'.2.2 (by rw[h1,e])
    ·have:=hg'.2.1;omega
   ·rw[sc g (by have:=hg'.1;omega)];exact st g hg'.2.1 (by have:=hg'.1;omega) hg'.2.2
 ·refine⟨?_,?_,?_,by simp;omega,fun k hk h1 h2=> ?_⟩
  ·exact hg.os.trans (bu4.os.trans (b3.os.trans bu.os))
  ·exact hg.tape.trans (bu4.tape.trans (b3.tape.trans bu.tape))
  ·exact hg.output.trans (bu4.output.trans (b3.output.trans bu.output))
  ·rw[sc k h2,st k (by omega) h1 (fun e=>by have:=(lo k e.symm).1;omega)]
   exact bu.block k hk h1 h2
 ·have:=heap_setCell_same w5 F 1 _ _ (.slice (some ⟨gg,0,none⟩) (acc.length+1) cap) fb5
  simpa using this
theorem ZQ:(Tryz.prog.info? 151).map (fun i=>(i.zero,i.size,i.bytes))=some (some (.agg #[.string ⟨#[]⟩,.int .i64 0,.int .i64 0,.string ⟨#[]⟩,.slice none 0 0,.slice none 0 0,.int .i64 0,.slice none 0 0,.int .i64 0]),9,136):=by kernel_rfl
theorem vW (w:World) (n:Nat) (x0 x1 x2 x3 x4 x5 x6 x7 x8:Value) (hn:n=w.heap.size):∀(j:Nat) (u:Value),[x0,x1,x2,x3,x4,x5,x6,x7,x8][j]? =some u→(w.alloc (.cells #[x0,x1,x2,x3,x4,x5,x6,x7,x8] 151)).cell? ((⟨n,0,none⟩:Addr).add j)=some u:=by
 subst hn
 exact World.news_of_block (cs:= #[x0,x1,x2,x3,x4,x5,x6,x7,x8]) (t:=151) (fr:=(0,0)) (heap_alloc_new w _)
theorem rulesF_end {f:Nat} {acc:List RU} {r:List TN} (ha:acc≠[]) (h:kd r= -1):xW (f+1) acc r= .inr (acc,r):=by
 unfold xW
 rw[if_pos ⟨ha,h⟩]
theorem j8 {f:Nat} {acc:List RU} {r r1:List TN} {u:RU} (h:acc=[]∨kd r≠-1) (hu:kz acc.length r= .inr (u,r1)):xW (f+1) acc r=xW f (acc++[u]) r1:=by
 conv=>lhs;unfold xW
 rw[if_neg (by rintro⟨h1,h2⟩;rcases h with h|h;exact h1 h;exact h h2),hu]
theorem ku {f:Nat} {acc:List RU} {r:List TN} {e:Nat×Int} (h:acc=[]∨kd r≠-1) (hu:kz acc.length r= .inl e):xW (f+1) acc r= .inl e:=by
 unfold xW
 rw[if_neg (by rintro⟨h1,h2⟩;rcases h with h|h;exact h1 h;exact h h2),hu]
theorem ZX {n:Nat} {r r1:List TN} {u:RU} (h:kz n r= .inr (u,r1)):n≠16:=by
 intro hn
 unfold kz at h
 simp only at h
 split at h
 ·first|cases h|(rw[if_pos hn]at h;cases h)
 ·cases h
theorem RuleV.form {D:Nat→Prop} {w:World} {v:Value} {u:RU} (h:RuleV D w v u):∃z0 z1 z2 z3 z4 z5 z6 z7 z8 z9 z10 z11 z12 z13 z14,v= .agg #[.string z0,.int .i64 z1,.int .i64 z2,.string z3,.slice z4 z5 z6,.slice z7 z8 z9,.int .i64 z10,.slice z11 z12 z13,.int .i64 z14]:=by
 obtain⟨x0,x1,x2,x3,x4,a,c,e,h1,h2,h3,h4,h5,h6⟩:=h
 obtain⟨y1,y2,y3,y4,y5,y6,y7,y8,y9,ev,-⟩:=h3.form
 simp only[Value.agg.injEq,Array.mk.injEq,List.cons.injEq,and_true]at ev
 obtain⟨rfl,rfl,rfl,rfl,rfl⟩:=ev
 exact⟨_,_,_,_,_,_,_,_,_,_,_,_,_,_,_,e⟩
theorem res_file {fn:Func} {p:Tmp} (h:fn.results= #[.cell p 54]) {tmps:Array Value} {g:Nat} (hp:tmps.getD p undef= .pointer (some ⟨g,0,none⟩)) {X:World} {x0 x1:Value} (hX:X.heap[g]? =some (.cells #[x0,x1] 54)):
  (results fn tmps).run Tryz.prog X= .ok (.agg #[x0,x1]) X:=by
 obtain⟨k0,k1⟩:=(yk hX).1
 have hp2:tmps[p]?.getD undef= .pointer (some ⟨g,0,none⟩):=by rw[←hp];simp[Array.getD_eq_getD_getElem?]
 simp only[results,h]
 simp[hp2,go_sem,k0,k1]
def FRES (b:Nat) (w:World) (x:Sum (Nat×Int) (List (List Int)×List RU)) (e:Ending) (w':World):Prop:=
 (∃v f,x= .inr f∧e= .returned v∧FileV (New w w') w' v f∧Bu b w w')∨(∃q why,x= .inl (q,why)∧e=xv q why∧Bu b w w')
theorem file_l (w:World) (b G:Nat) (r:List TN) (m:Nat) (h:Rd w b G r m (dp 12)) (hr:Ends r) (hl:r.length≤1000) (hm:Mq w m):
  Calls Tryz.prog 64 #[.pointer (some ⟨b,0,none⟩)] w (FRES b w (Yq r)):=by
 have hbl:=h.lt
 have hGl:=h.ltG
 have HB:∀o,Below w.heap.size w (w.alloc o):=fun o=>Below.new1 o
 have CK:=zk (fun W (bW:Below w.heap.size w W)=>keys_l W b G r m (dp 12) (h.later bW) hr)
 have HST:=zk (And.intro h.cells hm)
 have CR:=zk (fun W r1 (n:Nat) (hn:n≤16) (k:Rd W b G r1 m (dp 12)) (e:Ends r1) (l:r1.length≤1000) (q:Mq W m)=>rule_l W b G r1 m n hn k e l q)
 have e0:strOfNums []=⟨#[]⟩:=rfl
 generalize hD0:dp 12=d0 at*
 clear h hr hm hD0
 go_enter Tryz.func64,Tryz.ntmps64
 go_wp2_with fail
 refine(zq CK _ (HB _)).mono ?_
 clear CK
 rintro e w1 (⟨aK,cK,KL,r1,ek,rfl,ssK,hK8,E1,hl1,rd1,bu1⟩|⟨q1,y1,ek,rfl,bu1⟩)
 case inr=>
  have FIN:Hid (Yq r= .inl (q1,y1)):=by show _=_;unfold Yq;rw[ek]
  clear ek CR
  unfold xv
  go_wp2_with fail
  exact⟨rfl,.inr ⟨q1,y1,zq FIN,rfl,(Bu.of (HB _)).then bu1⟩⟩
 have ST:Hid (Yq r=match xW (r.length+1) [] r1 with| .inl e=> .inl e| .inr (l,_)=> .inr (KL,l)):=by show _=_;unfold Yq;rw[ek];rfl
 have BU1:=zk ((Bu.of (HB _)).then bu1)
 have OUT1:=bu1.at (heap_alloc_new w _) (show w.heap.size≠b by omega)
 have s1:w.heap.size<w1.heap.size:=(Array.getElem?_eq_some_iff.1 OUT1).1
 have MQ1:Mq w1 m:=(zq HST).2.bu (zq BU1) (zq HST).1.choose_spec.1
 have SSK:=zk ssK
 generalize hF:w1.heap.size=F at*
 have BN:=Below.new1 (w:=w1) (.cells #[.slice aK KL.length cK,.slice none 0 0] 54)
 have RI:Hid (RowR b G m F d0 (w1.alloc (.cells #[.slice aK KL.length cK,.slice none 0 0] 54)) (.slice aK KL.length cK) [] r1 (.slice none 0 0) [] (w1.alloc (.cells #[.slice aK KL.length cK,.slice none 0 0] 54))):=
  ⟨E1,rd1.later BN,MQ1.later BN,World.ownsRow_nil _ _ _ _,rfl,Bu2.refl _ _ _,by rw[←hF];exact heap_alloc_new _ _⟩
 have BU2:=zk ((zq BU1).alloc (.cells #[.slice aK KL.length cK,.slice none 0 0] 54))
 have OUT2:=zk (zK OUT1 (.cells #[.slice aK KL.length cK,.slice none 0 0] 54))
 have sW2:(w1.alloc (.cells #[.slice aK KL.length cK,.slice none 0 0] 54)).heap.size=F+1:=by rw[World.size_alloc,hF]
 have SS2:Hid (Ss (fun g=>w.heap.size<g∧g<F) (w1.alloc (.cells #[.slice aK KL.length cK,.slice none 0 0] 54)) aK KL.length cK KL):=by
  refine Ss.kept (zq SSK) fun g hg=>⟨⟨?_,?_⟩,BN.block g (by have:=hg.2;omega)⟩
  ·have:=hg.1;rw[World.size_alloc]at this;omega
  ·have:=hg.2;omega
 clear ek ssK rd1 E1 MQ1 OUT1 bu1 BU1 SSK HST BN
 go_wp2_with fail
 generalize hW2:w1.alloc (.cells #[.slice aK KL.length cK,.slice none 0 0] 54)=w2 at*
 clear hW2
 go_loopw [] (fun wr=>Hid (∃(acc:List RU) (rr:List TN) (f:Nat) (cs:List Value) (v:Value),xW (r.length+1) [] r1=xW f acc rr∧rr.length+1≤f∧rr.length≤r.length∧acc.length≤16∧RowR b G m F d0 w2 (.slice aK KL.length cK) acc rr v cs wr)) (fun wr=>leftN b wr)
 case atStart=>exact⟨[],r1,r.length+1,[],_,rfl,by omega,hl1,by simp,zq RI⟩
 case round=>
  obtain⟨acc,rr,f,cs,v,hS,hff,hrl,ha16,hI⟩:=zq hrel
  obtain⟨q5,c5,rfl⟩:=xu hI.own
  have HS:=zk hS
  have HI:=zk hI
  obtain⟨f',rfl⟩:∃f',f=f'+1:=⟨f-1,by omega⟩
  obtain⟨⟨fk,fq⟩,ff0,ff1⟩:=yk hI.fb
  have hbr:=hI.rd.lt
  have CU:=zk (fun W (bW:Below wr.heap.size wr W)=>zq CR W rr acc.length ha16 (hI.rd.later bW) hI.he (by omega) (hI.mq.later bW))
  have CS:=zk (sees_l wr b G rr m d0 hI.rd hI.he (-1) [] (fun z hz=>by cases hz))
  rw[Y5 rr (-1) (by decide),e0]at CS
  have hE:=hI.he
  have hlF:=(Array.getElem?_eq_some_iff.1 hI.fb).1
  clear hrel hS hI RI
  by_cases hz:acc=[]
  ·have HZ:=zk hz
   have a0:((acc.length:Int)==0)=true:=by rw[hz];rfl
   clear hz hE
   have b3:Below wr.heap.size wr wr:=Below.refl _ _
   go_wp2_with fail
   refine wp_region_held_drew (S:=(fun _=>True)) (by kernel_rfl) trivial (fun hHeld=> ?_)
   refine tkh 0 ?_ rfl (by kernel_rfl) (fun _ _ _ h=>h) ?_ (by assumption) ?_
   rotate_left
   ·intro w hSw;(try dsimp only at hSw);go_simp;(try with_reducible rfl)
   try simp only[pls]
   refine tkh 2 ?_ rfl (by kernel_rfl) (fun _ _ _ h=>h) ?_ (by assumption) ?_
   rotate_left
   ·intro w hSw;(try dsimp only at hSw);go_simp;(try with_reducible rfl)
   try simp only[pls]
   refine tkh 3 ?_ rfl (by kernel_rfl) (fun _ _ _ h=>h) ?_ (by assumption) ?_
   rotate_left
   ·intro w hSw;(try dsimp only at hSw);go_simp;(try with_reducible rfl)
   try simp only[pls]
   refine wpAnyH_ready (rs:=[1,4]) (by kernel_rfl) (by simp) ?_
   refine AllReadyH.cons rfl (fun K hK=> ?_) (AllReadyH.cons rfl (fun K hK=> ?_) AllReadyH.nil)
   ·go_simp
    refine hK.out _ _ trivial (fun hHeld=> ?_)
    clear hK K
    try simp only[pls]
    refine wpAnyH_ready (rs:=[4]) (by kernel_rfl) (by simp) ?_
    refine AllReadyH.cons rfl (fun K hK=> ?_) AllReadyH.nil
    go_simp
    refine hK.out _ _ trivial (fun hHeld=> ?_)
    clear hK K
    try simp only[pls]
    refine tkh 5 ?_ rfl (by kernel_rfl) (fun _ _ _ h=>h) ?_ (by assumption) ?_
    rotate_left
    ·intro w hSw;(try dsimp only at hSw);go_simp;(try with_reducible rfl)
    try simp only[pls]
    refine wpAnyH_ready (rs:=[6]) (by kernel_rfl) (by simp) ?_
    refine AllReadyH.cons rfl (fun K hK=> ?_) AllReadyH.nil
    go_simp
    refine(zq CU _ (zY b3 zX)).mono ?_
    clear CU
    rintro e w4 (⟨v4,u4,r4,eu,rfl,ru4,E4,hl4,rd4,bu4⟩|⟨q4,y4,eu,rfl,bu4⟩)
    ·have STEP:Hid (xW (r.length+1) [] r1=xW f' (acc++[u4]) r4):=(zq HS).trans (j8 (.inl (zq HZ)) eu)
     have hmost:=ZX eu
     have B4:=zY b3 (zX (k:=1) (w:=wr) (B:=wr.heap.size))
     have HRU:=zk ru4
     obtain⟨z0,z1,z2,z3,z4,z5,z6,z7,z8,z9,z10,z11,z12,z13,z14,rfl⟩:=ru4.form
     have HO:=vZ (j5 B4 (zq HI).own) bu4 (by omega)
     have hs4:=bu4.size
     have hs3:=B4.size
     have hs0:=(zq HI).bu.size
     have f4:w4.heap[F]? =some (.cells #[.slice aK KL.length cK,.slice q5 acc.length c5] 54):=bu4.at ((B4.block F hlF).trans (zq HI).fb) (by omega)
     obtain⟨⟨g0,g1⟩,k0,k1⟩:=yk f4
     have g1':∀o,(w4.alloc o).cell? ⟨F,1,none⟩=some (.slice q5 acc.length c5):=fun o=>((Below.new1 o).cell (zJ g1)).trans g1
     have hF4:F<w4.heap.size:=(Array.getElem?_eq_some_iff.1 f4).1
     have HBU4:=zk bu4
     have HRD4:=zk rd4
     have HE4:=zk E4
     obtain⟨ti,hi0,hz0,hz1,hz2⟩:=info_parts ZQ
     clear ru4 bu4 rd4 E4 eu
     (try clear CS)
     refine hK.out _ _ trivial (fun hHeld=> ?_)
     clear hK K
     try simp only[pls]
     refine wpAnyH_ready (rs:=[7]) (by kernel_rfl) (by simp) ?_
     refine AllReadyH.cons rfl (fun K hK=> ?_) AllReadyH.nil
     go_simp
     refine hK.out _ _ trivial (fun hHeld=> ?_)
     clear hK K
     try simp only[pls]
     refine wpAnyH_ready (rs:=[8]) (by kernel_rfl) (by simp) ?_
     refine AllReadyH.cons rfl (fun K hK=> ?_) AllReadyH.nil
     refine step_append_lies _ rfl _ _ 52 rfl w2.heap.size 151 ti _ 9 136 Tryz.underlying52 hi0 hz0 hz1 hz2 rfl (by omega) _ _ _ rfl (HO.alloc _) ⟨w4.heap.size,0,none⟩ 1 1 [.string z0,.int .i64 z1,.int .i64 z2,.string z3,.slice z4 z5 z6,.slice z7 z8 z9,.int .i64 z10,.slice z11 z12 z13,.int .i64 z14] rfl rfl (vW _ _ _ _ _ _ _ _ _ _ _ rfl) (by simp[Value.oneCell']) (by omega) (by unfold maxLen;omega) (by omega) (by simp;omega) (w4.heap.size+1) (by simp) ?_
     intro gg cap1 w5 hown1 hgrow hat hlt1
     have lo:=HO.lt
     have f5:w5.heap[F]? =some (.cells #[.slice aK KL.length cK,.slice q5 acc.length c5] 54):=(hgrow.block F (by rw[World.size_alloc];omega) (fun e=>by have:=(lo F e.symm).1;omega)).trans (zK f4 _)
     obtain⟨⟨n0,n1⟩,n2,n3⟩:=yk f5
     have NI:=zk (RowR.snoc (zq HI) (by omega) (by omega) (by omega) (by omega) (by omega) B4 (zq HBU4) (zq HE4) (zq HRD4) (zq HRU) hown1 hgrow (by rcases hat with h|h;exact .inl h;exact .inr (by simp[h])))
     clear g0 g1 g1' k0 k1 f4 hgrow hat hlt1 hown1 HO lo
     refine hK.out _ _ trivial (fun hHeld=> ?_)
     clear hK K
     try simp only[pls]
     refine tkh 9 ?_ rfl (by kernel_rfl) (fun _ _ _ h=>h) ?_ (by assumption) ?_
     rotate_left
     ·intro w hSw;(try dsimp only at hSw);go_simp;(try with_reducible rfl)
     try simp only[pls]
     refine wpAnyH_ready (rs:=[10]) (by kernel_rfl) (by simp) ?_
     refine AllReadyH.cons rfl (fun K hK=> ?_) AllReadyH.nil
     go_simp
     refine hK.out _ _ trivial (fun hHeld=> ?_)
     clear hK K
     try simp only[pls]
     refine wpAnyH_done (by kernel_rfl) ?_ _
     go_wp2_with fail
     go_roundw
     case rel=>
      refine⟨acc++[u4],r4,f',_,_,zq STEP,by omega,by omega,by rw[List.length_append,List.length_singleton];omega,zq NI⟩
     case measure=>rw[(zq NI).rd.left,(zq HI).rd.left];exact hl4
    ·have FIN:Hid (Yq r= .inl (q4,y4)):=by show _=_;rw[zq ST,zq HS,ku (.inl (zq HZ)) eu]
     have BF:=zk ((Bu2.bu (zq BU2) (zq HI).bu (by omega)).then ((Bu.of (zY b3 (zX (k:=1) (w:=wr) (B:=wr.heap.size)))).then bu4))
     clear eu
     unfold xv
     go_wp2_with fail
     exact⟨rfl,.inr ⟨q4,y4,zq FIN,rfl,zq BF⟩⟩
   ·go_simp
    refine hK.out _ _ trivial (fun hHeld=> ?_)
    clear hK K
    try simp only[pls]
    refine tkh 5 ?_ rfl (by kernel_rfl) (fun _ _ _ h=>h) ?_ (by assumption) ?_
    rotate_left
    ·intro w hSw;(try dsimp only at hSw);go_simp;(try with_reducible rfl)
    try simp only[pls]
    refine wpAnyH_ready (rs:=[1,6]) (by kernel_rfl) (by simp) ?_
    refine AllReadyH.cons rfl (fun K hK=> ?_) (AllReadyH.cons rfl (fun K hK=> ?_) AllReadyH.nil)
    ·go_simp
     refine hK.out _ _ trivial (fun hHeld=> ?_)
     clear hK K
     try simp only[pls]
     refine wpAnyH_ready (rs:=[6]) (by kernel_rfl) (by simp) ?_
     refine AllReadyH.cons rfl (fun K hK=> ?_) AllReadyH.nil
     go_simp
     refine(zq CU _ (zY b3 zX)).mono ?_
     clear CU
     rintro e w4 (⟨v4,u4,r4,eu,rfl,ru4,E4,hl4,rd4,bu4⟩|⟨q4,y4,eu,rfl,bu4⟩)
     ·have STEP:Hid (xW (r.length+1) [] r1=xW f' (acc++[u4]) r4):=(zq HS).trans (j8 (.inl (zq HZ)) eu)
      have hmost:=ZX eu
      have B4:=zY b3 (zX (k:=1) (w:=wr) (B:=wr.heap.size))
      have HRU:=zk ru4
      obtain⟨z0,z1,z2,z3,z4,z5,z6,z7,z8,z9,z10,z11,z12,z13,z14,rfl⟩:=ru4.form
      have HO:=vZ (j5 B4 (zq HI).own) bu4 (by omega)
      have hs4:=bu4.size
      have hs3:=B4.size
      have hs0:=(zq HI).bu.size
      have f4:w4.heap[F]? =some (.cells #[.slice aK KL.length cK,.slice q5 acc.length c5] 54):=bu4.at ((B4.block F hlF).trans (zq HI).fb) (by omega)
      obtain⟨⟨g0,g1⟩,k0,k1⟩:=yk f4
      have g1':∀o,(w4.alloc o).cell? ⟨F,1,none⟩=some (.slice q5 acc.length c5):=fun o=>((Below.new1 o).cell (zJ g1)).trans g1
      have hF4:F<w4.heap.size:=(Array.getElem?_eq_some_iff.1 f4).1
      have HBU4:=zk bu4
      have HRD4:=zk rd4
      have HE4:=zk E4
      obtain⟨ti,hi0,hz0,hz1,hz2⟩:=info_parts ZQ
      clear ru4 bu4 rd4 E4 eu
      (try clear CS)
      refine hK.out _ _ trivial (fun hHeld=> ?_)
      clear hK K
      try simp only[pls]
      refine wpAnyH_ready (rs:=[7]) (by kernel_rfl) (by simp) ?_
      refine AllReadyH.cons rfl (fun K hK=> ?_) AllReadyH.nil
      go_simp
      refine hK.out _ _ trivial (fun hHeld=> ?_)
      clear hK K
      try simp only[pls]
      refine wpAnyH_ready (rs:=[8]) (by kernel_rfl) (by simp) ?_
      refine AllReadyH.cons rfl (fun K hK=> ?_) AllReadyH.nil
      refine step_append_lies _ rfl _ _ 52 rfl w2.heap.size 151 ti _ 9 136 Tryz.underlying52 hi0 hz0 hz1 hz2 rfl (by omega) _ _ _ rfl (HO.alloc _) ⟨w4.heap.size,0,none⟩ 1 1 [.string z0,.int .i64 z1,.int .i64 z2,.string z3,.slice z4 z5 z6,.slice z7 z8 z9,.int .i64 z10,.slice z11 z12 z13,.int .i64 z14] rfl rfl (vW _ _ _ _ _ _ _ _ _ _ _ rfl) (by simp[Value.oneCell']) (by omega) (by unfold maxLen;omega) (by omega) (by simp;omega) (w4.heap.size+1) (by simp) ?_
      intro gg cap1 w5 hown1 hgrow hat hlt1
      have lo:=HO.lt
      have f5:w5.heap[F]? =some (.cells #[.slice aK KL.length cK,.slice q5 acc.length c5] 54):=(hgrow.block F (by rw[World.size_alloc];omega) (fun e=>by have:=(lo F e.symm).1;omega)).trans (zK f4 _)
      obtain⟨⟨n0,n1⟩,n2,n3⟩:=yk f5
      have NI:=zk (RowR.snoc (zq HI) (by omega) (by omega) (by omega) (by omega) (by omega) B4 (zq HBU4) (zq HE4) (zq HRD4) (zq HRU) hown1 hgrow (by rcases hat with h|h;exact .inl h;exact .inr (by simp[h])))
      clear g0 g1 g1' k0 k1 f4 hgrow hat hlt1 hown1 HO lo
      refine hK.out _ _ trivial (fun hHeld=> ?_)
      clear hK K
      try simp only[pls]
      refine tkh 9 ?_ rfl (by kernel_rfl) (fun _ _ _ h=>h) ?_ (by assumption) ?_
      rotate_left
      ·intro w hSw;(try dsimp only at hSw);go_simp;(try with_reducible rfl)
      try simp only[pls]
      refine wpAnyH_ready (rs:=[10]) (by kernel_rfl) (by simp) ?_
      refine AllReadyH.cons rfl (fun K hK=> ?_) AllReadyH.nil
      go_simp
      refine hK.out _ _ trivial (fun hHeld=> ?_)
      clear hK K
      try simp only[pls]
      refine wpAnyH_done (by kernel_rfl) ?_ _
      go_wp2_with fail
      go_roundw
      case rel=>
       refine⟨acc++[u4],r4,f',_,_,zq STEP,by omega,by omega,by rw[List.length_append,List.length_singleton];omega,zq NI⟩
      case measure=>rw[(zq NI).rd.left,(zq HI).rd.left];exact hl4
     ·have FIN:Hid (Yq r= .inl (q4,y4)):=by show _=_;rw[zq ST,zq HS,ku (.inl (zq HZ)) eu]
      have BF:=zk ((Bu2.bu (zq BU2) (zq HI).bu (by omega)).then ((Bu.of (zY b3 (zX (k:=1) (w:=wr) (B:=wr.heap.size)))).then bu4))
      clear eu
      unfold xv
      go_wp2_with fail
      exact⟨rfl,.inr ⟨q4,y4,zq FIN,rfl,zq BF⟩⟩
    ·go_simp
     refine(zq CU _ (zY b3 zX)).mono ?_
     clear CU
     rintro e w4 (⟨v4,u4,r4,eu,rfl,ru4,E4,hl4,rd4,bu4⟩|⟨q4,y4,eu,rfl,bu4⟩)
     ·have STEP:Hid (xW (r.length+1) [] r1=xW f' (acc++[u4]) r4):=(zq HS).trans (j8 (.inl (zq HZ)) eu)
      have hmost:=ZX eu
      have B4:=zY b3 (zX (k:=1) (w:=wr) (B:=wr.heap.size))
      have HRU:=zk ru4
      obtain⟨z0,z1,z2,z3,z4,z5,z6,z7,z8,z9,z10,z11,z12,z13,z14,rfl⟩:=ru4.form
      have HO:=vZ (j5 B4 (zq HI).own) bu4 (by omega)
      have hs4:=bu4.size
      have hs3:=B4.size
      have hs0:=(zq HI).bu.size
      have f4:w4.heap[F]? =some (.cells #[.slice aK KL.length cK,.slice q5 acc.length c5] 54):=bu4.at ((B4.block F hlF).trans (zq HI).fb) (by omega)
      obtain⟨⟨g0,g1⟩,k0,k1⟩:=yk f4
      have g1':∀o,(w4.alloc o).cell? ⟨F,1,none⟩=some (.slice q5 acc.length c5):=fun o=>((Below.new1 o).cell (zJ g1)).trans g1
      have hF4:F<w4.heap.size:=(Array.getElem?_eq_some_iff.1 f4).1
      have HBU4:=zk bu4
      have HRD4:=zk rd4
      have HE4:=zk E4
      obtain⟨ti,hi0,hz0,hz1,hz2⟩:=info_parts ZQ
      clear ru4 bu4 rd4 E4 eu
      (try clear CS)
      refine hK.out _ _ trivial (fun hHeld=> ?_)
      clear hK K
      try simp only[pls]
      refine wpAnyH_ready (rs:=[1,7]) (by kernel_rfl) (by simp) ?_
      refine AllReadyH.cons rfl (fun K hK=> ?_) (AllReadyH.cons rfl (fun K hK=> ?_) AllReadyH.nil)
      ·go_simp
       refine hK.out _ _ trivial (fun hHeld=> ?_)
       clear hK K
       try simp only[pls]
       refine wpAnyH_ready (rs:=[7]) (by kernel_rfl) (by simp) ?_
       refine AllReadyH.cons rfl (fun K hK=> ?_) AllReadyH.nil
       go_simp
       refine hK.out _ _ trivial (fun hHeld=> ?_)
       clear hK K
       try simp only[pls]
       refine wpAnyH_ready (rs:=[8]) (by kernel_rfl) (by simp) ?_
       refine AllReadyH.cons rfl (fun K hK=> ?_) AllReadyH.nil
       refine step_append_lies _ rfl _ _ 52 rfl w2.heap.size 151 ti _ 9 136 Tryz.underlying52 hi0 hz0 hz1 hz2 rfl (by omega) _ _ _ rfl (HO.alloc _) ⟨w4.heap.size,0,none⟩ 1 1 [.string z0,.int .i64 z1,.int .i64 z2,.string z3,.slice z4 z5 z6,.slice z7 z8 z9,.int .i64 z10,.slice z11 z12 z13,.int .i64 z14] rfl rfl (vW _ _ _ _ _ _ _ _ _ _ _ rfl) (by simp[Value.oneCell']) (by omega) (by unfold maxLen;omega) (by omega) (by simp;omega) (w4.heap.size+1) (by simp) ?_
       intro gg cap1 w5 hown1 hgrow hat hlt1
       have lo:=HO.lt
       have f5:w5.heap[F]? =some (.cells #[.slice aK KL.length cK,.slice q5 acc.length c5] 54):=(hgrow.block F (by rw[World.size_alloc];omega) (fun e=>by have:=(lo F e.symm).1;omega)).trans (zK f4 _)
       obtain⟨⟨n0,n1⟩,n2,n3⟩:=yk f5
       have NI:=zk (RowR.snoc (zq HI) (by omega) (by omega) (by omega) (by omega) (by omega) B4 (zq HBU4) (zq HE4) (zq HRD4) (zq HRU) hown1 hgrow (by rcases hat with h|h;exact .inl h;exact .inr (by simp[h])))
       clear g0 g1 g1' k0 k1 f4 hgrow hat hlt1 hown1 HO lo
       refine hK.out _ _ trivial (fun hHeld=> ?_)
       clear hK K
       try simp only[pls]
       refine tkh 9 ?_ rfl (by kernel_rfl) (fun _ _ _ h=>h) ?_ (by assumption) ?_
       rotate_left
       ·intro w hSw;(try dsimp only at hSw);go_simp;(try with_reducible rfl)
       try simp only[pls]
       refine wpAnyH_ready (rs:=[10]) (by kernel_rfl) (by simp) ?_
       refine AllReadyH.cons rfl (fun K hK=> ?_) AllReadyH.nil
       go_simp
       refine hK.out _ _ trivial (fun hHeld=> ?_)
       clear hK K
       try simp only[pls]
       refine wpAnyH_done (by kernel_rfl) ?_ _
       go_wp2_with fail
       go_roundw
       case rel=>
        refine⟨acc++[u4],r4,f',_,_,zq STEP,by omega,by omega,by rw[List.length_append,List.length_singleton];omega,zq NI⟩
       case measure=>rw[(zq NI).rd.left,(zq HI).rd.left];exact hl4
      ·go_simp
       refine hK.out _ _ trivial (fun hHeld=> ?_)
       clear hK K
       try simp only[pls]
       refine wpAnyH_ready (rs:=[1]) (by kernel_rfl) (by simp) ?_
       refine AllReadyH.cons rfl (fun K hK=> ?_) AllReadyH.nil
       go_simp
       refine hK.out _ _ trivial (fun hHeld=> ?_)
       clear hK K
       try simp only[pls]
       refine wpAnyH_ready (rs:=[8]) (by kernel_rfl) (by simp) ?_
       refine AllReadyH.cons rfl (fun K hK=> ?_) AllReadyH.nil
       refine step_append_lies _ rfl _ _ 52 rfl w2.heap.size 151 ti _ 9 136 Tryz.underlying52 hi0 hz0 hz1 hz2 rfl (by omega) _ _ _ rfl (HO.alloc _) ⟨w4.heap.size,0,none⟩ 1 1 [.string z0,.int .i64 z1,.int .i64 z2,.string z3,.slice z4 z5 z6,.slice z7 z8 z9,.int .i64 z10,.slice z11 z12 z13,.int .i64 z14] rfl rfl (vW _ _ _ _ _ _ _ _ _ _ _ rfl) (by simp[Value.oneCell']) (by omega) (by unfold maxLen;omega) (by omega) (by simp;omega) (w4.heap.size+1) (by simp) ?_
       intro gg cap1 w5 hown1 hgrow hat hlt1
       have lo:=HO.lt
       have f5:w5.heap[F]? =some (.cells #[.slice aK KL.length cK,.slice q5 acc.length c5] 54):=(hgrow.block F (by rw[World.size_alloc];omega) (fun e=>by have:=(lo F e.symm).1;omega)).trans (zK f4 _)
       obtain⟨⟨n0,n1⟩,n2,n3⟩:=yk f5
       have NI:=zk (RowR.snoc (zq HI) (by omega) (by omega) (by omega) (by omega) (by omega) B4 (zq HBU4) (zq HE4) (zq HRD4) (zq HRU) hown1 hgrow (by rcases hat with h|h;exact .inl h;exact .inr (by simp[h])))
       clear g0 g1 g1' k0 k1 f4 hgrow hat hlt1 hown1 HO lo
       refine hK.out _ _ trivial (fun hHeld=> ?_)
       clear hK K
       try simp only[pls]
       refine tkh 9 ?_ rfl (by kernel_rfl) (fun _ _ _ h=>h) ?_ (by assumption) ?_
       rotate_left
       ·intro w hSw;(try dsimp only at hSw);go_simp;(try with_reducible rfl)
       try simp only[pls]
       refine wpAnyH_ready (rs:=[10]) (by kernel_rfl) (by simp) ?_
       refine AllReadyH.cons rfl (fun K hK=> ?_) AllReadyH.nil
       go_simp
       refine hK.out _ _ trivial (fun hHeld=> ?_)
       clear hK K
       try simp only[pls]
       refine wpAnyH_done (by kernel_rfl) ?_ _
       go_wp2_with fail
       go_roundw
       case rel=>
        refine⟨acc++[u4],r4,f',_,_,zq STEP,by omega,by omega,by rw[List.length_append,List.length_singleton];omega,zq NI⟩
       case measure=>rw[(zq NI).rd.left,(zq HI).rd.left];exact hl4
     ·have FIN:Hid (Yq r= .inl (q4,y4)):=by show _=_;rw[zq ST,zq HS,ku (.inl (zq HZ)) eu]
      have BF:=zk ((Bu2.bu (zq BU2) (zq HI).bu (by omega)).then ((Bu.of (zY b3 (zX (k:=1) (w:=wr) (B:=wr.heap.size)))).then bu4))
      clear eu
      unfold xv
      go_wp2_with fail
      exact⟨rfl,.inr ⟨q4,y4,zq FIN,rfl,zq BF⟩⟩
  ·by_cases he:kd rr= -1
   ·have a0:((acc.length:Int)==0)=false:=beq_eq_false_iff_ne.2 (fun c=>hz (List.eq_nil_of_length_eq_zero (by omega)))
    rw[decide_eq_true he]at CS
    have FIN:Hid (Yq r= .inr (KL,acc)):=by show _=_;rw[zq ST,zq HS,rulesF_end hz he]
    clear hz he hE CU
    go_wp2_with fail
    refine(zq CS).mono ?_
    rintro e w3 ⟨rfl,b3⟩
    clear CS
    have hI:=zq HI
    have hs0:=hI.bu.size
    have FB3:w3.heap[F]? =some (.cells #[.slice aK KL.length cK,.slice q5 acc.length c5] 54):=(b3.block F hlF).trans hI.fb
    have OUT3:w3.heap[w.heap.size]? =some (.cells #[.slice none 0 0,.slice none 0 0] 54):=by
     rw[b3.block _ (by omega),hI.bu.block _ (by omega) (by omega) (by omega)]
     exact zq OUT2
    obtain⟨⟨g0,g1⟩,-⟩:=yk FB3
    obtain⟨⟨o0,o1⟩,k0,k1⟩:=yk OUT3
    clear hI
    go_wp2_with fail
    (try simp only[Exit.inBlock,Exit.then])
    have hI:=zq HI
    have X2:∀k,k≠w.heap.size→((w3.setCell ⟨w.heap.size,0,none⟩ (.slice aK KL.length cK)).setCell ⟨w.heap.size,1,none⟩ (.slice q5 acc.length c5)).heap[k]? =w3.heap[k]? :=fun k hk=>by
     simp only[Below.heap_setCell _ _ _ k (show k≠(⟨w.heap.size,_,none⟩:Addr).block from hk)]
    have KX:KR w3 ((w3.setCell ⟨w.heap.size,0,none⟩ (.slice aK KL.length cK)).setCell ⟨w.heap.size,1,none⟩ (.slice q5 acc.length c5)):=fun g' cs fr hk=>by
     rw[X2 g' (yq hk OUT3 (by decide))];exact hk
    have s3:=b3.size
    have OWX:=(j5 b3 hI.own).kept (w':=(w3.setCell ⟨w.heap.size,0,none⟩ (.slice aK KL.length cK)).setCell ⟨w.heap.size,1,none⟩ (.slice q5 acc.length c5)) (row:=some w.heap.size) ((Bu.set w.heap.size 0 w3 _).then (Bu.set w.heap.size 1 _ _)) (by
     cases e:(Value.slice q5 acc.length c5).ownBlock with
     |none=>exact .inl rfl
     |some k=>exact .inr (fun c=>by injection c with c;have:=(hI.own.lt k e).1;omega))
    refine bodyPost_ret (v:= .agg #[.slice aK KL.length cK,.slice q5 acc.length c5]) ?_ rfl (.inl ⟨_,(KL,acc),zq FIN,rfl,⟨aK,cK,q5,c5,rfl,?_,cs,rfl,own_row OWX _ (fun g h1 h2=>⟨by omega,h2⟩),?_⟩,?_⟩)
    ·exact res_file rfl rfl (by
      have h0:=heap_setCell_same w3 w.heap.size 0 _ _ (.slice aK KL.length cK) OUT3
      have h1:=heap_setCell_same _ w.heap.size 1 _ _ (.slice q5 acc.length c5) h0
      simpa using h1)
    ·refine Ss.kept (zq SS2) fun g hg=>⟨⟨by have:=hg.1;omega,by simp;have:=hg.2;omega⟩,?_⟩
     obtain⟨g1,g2⟩:=hg
     rw[X2 g (by omega),b3.block g (by omega),hI.bu.block g (by omega) (by omega) (by omega)]
    ·refine RuC.mono (fun u q hq=>hq.kept (fun g hg=>⟨⟨by have:=hg.1;omega,by simp;have:=hg.2.1;omega⟩,?_⟩) ((KR.of b3).then KX)) _ _ hI.pts
     rw[X2 g (by have:=hg.1;omega),b3.block g hg.2.1]
    ·exact(((Bu2.bu (zq BU2) hI.bu (by omega)).then (Bu.of b3)).setTop (Nat.le_refl _) _ _).setTop (Nat.le_refl _) _ _
   ·have a0:((acc.length:Int)==0)=false:=beq_eq_false_iff_ne.2 (fun c=>hz (List.eq_nil_of_length_eq_zero (by omega)))
    rw[decide_eq_false he]at CS
    have HZ:=zk he
    clear hz he hE
    go_wp2_with fail
    refine(zq CS).mono ?_
    rintro e w3 ⟨rfl,b3⟩
    clear CS
    have fq:=(b3.cell hlF).trans fq
    go_wp2_with fail
    refine wp_region_held_drew (S:=(fun _=>True)) (by kernel_rfl) trivial (fun hHeld=> ?_)
    refine tkh 0 ?_ rfl (by kernel_rfl) (fun _ _ _ h=>h) ?_ (by assumption) ?_
    rotate_left
    ·intro w hSw;(try dsimp only at hSw);go_simp;(try with_reducible rfl)
    try simp only[pls]
    refine tkh 2 ?_ rfl (by kernel_rfl) (fun _ _ _ h=>h) ?_ (by assumption) ?_
    rotate_left
    ·intro w hSw;(try dsimp only at hSw);go_simp;(try with_reducible rfl)
    try simp only[pls]
    refine tkh 3 ?_ rfl (by kernel_rfl) (fun _ _ _ h=>h) ?_ (by assumption) ?_
    rotate_left
    ·intro w hSw;(try dsimp only at hSw);go_simp;(try with_reducible rfl)
    try simp only[pls]
    refine wpAnyH_ready (rs:=[1,4]) (by kernel_rfl) (by simp) ?_
    refine AllReadyH.cons rfl (fun K hK=> ?_) (AllReadyH.cons rfl (fun K hK=> ?_) AllReadyH.nil)
    ·go_simp
     refine hK.out _ _ trivial (fun hHeld=> ?_)
     clear hK K
     try simp only[pls]
     refine wpAnyH_ready (rs:=[4]) (by kernel_rfl) (by simp) ?_
     refine AllReadyH.cons rfl (fun K hK=> ?_) AllReadyH.nil
     go_simp
     refine hK.out _ _ trivial (fun hHeld=> ?_)
     clear hK K
     try simp only[pls]
     refine tkh 5 ?_ rfl (by kernel_rfl) (fun _ _ _ h=>h) ?_ (by assumption) ?_
     rotate_left
     ·intro w hSw;(try dsimp only at hSw);go_simp;(try with_reducible rfl)
     try simp only[pls]
     refine wpAnyH_ready (rs:=[6]) (by kernel_rfl) (by simp) ?_
     refine AllReadyH.cons rfl (fun K hK=> ?_) AllReadyH.nil
     go_simp
     refine(zq CU _ (zY b3 zX)).mono ?_
     clear CU
     rintro e w4 (⟨v4,u4,r4,eu,rfl,ru4,E4,hl4,rd4,bu4⟩|⟨q4,y4,eu,rfl,bu4⟩)
     ·have STEP:Hid (xW (r.length+1) [] r1=xW f' (acc++[u4]) r4):=(zq HS).trans (j8 (.inr (zq HZ)) eu)
      have hmost:=ZX eu
      have B4:=zY b3 (zX (k:=1) (w:=w3) (B:=w3.heap.size))
      have HRU:=zk ru4
      obtain⟨z0,z1,z2,z3,z4,z5,z6,z7,z8,z9,z10,z11,z12,z13,z14,rfl⟩:=ru4.form
      have HO:=vZ (j5 B4 (zq HI).own) bu4 (by omega)
      have hs4:=bu4.size
      have hs3:=B4.size
      have hs0:=(zq HI).bu.size
      have f4:w4.heap[F]? =some (.cells #[.slice aK KL.length cK,.slice q5 acc.length c5] 54):=bu4.at ((B4.block F hlF).trans (zq HI).fb) (by omega)
      obtain⟨⟨g0,g1⟩,k0,k1⟩:=yk f4
      have g1':∀o,(w4.alloc o).cell? ⟨F,1,none⟩=some (.slice q5 acc.length c5):=fun o=>((Below.new1 o).cell (zJ g1)).trans g1
      have hF4:F<w4.heap.size:=(Array.getElem?_eq_some_iff.1 f4).1
      have HBU4:=zk bu4
      have HRD4:=zk rd4
      have HE4:=zk E4
      obtain⟨ti,hi0,hz0,hz1,hz2⟩:=info_parts ZQ
      clear ru4 bu4 rd4 E4 eu
      (try clear CS)
      refine hK.out _ _ trivial (fun hHeld=> ?_)
      clear hK K
      try simp only[pls]
      refine wpAnyH_ready (rs:=[7]) (by kernel_rfl) (by simp) ?_
      refine AllReadyH.cons rfl (fun K hK=> ?_) AllReadyH.nil
      go_simp
      refine hK.out _ _ trivial (fun hHeld=> ?_)
      clear hK K
      try simp only[pls]
      refine wpAnyH_ready (rs:=[8]) (by kernel_rfl) (by simp) ?_
      refine AllReadyH.cons rfl (fun K hK=> ?_) AllReadyH.nil
      refine step_append_lies _ rfl _ _ 52 rfl w2.heap.size 151 ti _ 9 136 Tryz.underlying52 hi0 hz0 hz1 hz2 rfl (by omega) _ _ _ rfl (HO.alloc _) ⟨w4.heap.size,0,none⟩ 1 1 [.string z0,.int .i64 z1,.int .i64 z2,.string z3,.slice z4 z5 z6,.slice z7 z8 z9,.int .i64 z10,.slice z11 z12 z13,.int .i64 z14] rfl rfl (vW _ _ _ _ _ _ _ _ _ _ _ rfl) (by simp[Value.oneCell']) (by omega) (by unfold maxLen;omega) (by omega) (by simp;omega) (w4.heap.size+1) (by simp) ?_
      intro gg cap1 w5 hown1 hgrow hat hlt1
      have lo:=HO.lt
      have f5:w5.heap[F]? =some (.cells #[.slice aK KL.length cK,.slice q5 acc.length c5] 54):=(hgrow.block F (by rw[World.size_alloc];omega) (fun e=>by have:=(lo F e.symm).1;omega)).trans (zK f4 _)
      obtain⟨⟨n0,n1⟩,n2,n3⟩:=yk f5
      have NI:=zk (RowR.snoc (zq HI) (by omega) (by omega) (by omega) (by omega) (by omega) B4 (zq HBU4) (zq HE4) (zq HRD4) (zq HRU) hown1 hgrow (by rcases hat with h|h;exact .inl h;exact .inr (by simp[h])))
      clear g0 g1 g1' k0 k1 f4 hgrow hat hlt1 hown1 HO lo
      refine hK.out _ _ trivial (fun hHeld=> ?_)
      clear hK K
      try simp only[pls]
      refine tkh 9 ?_ rfl (by kernel_rfl) (fun _ _ _ h=>h) ?_ (by assumption) ?_
      rotate_left
      ·intro w hSw;(try dsimp only at hSw);go_simp;(try with_reducible rfl)
      try simp only[pls]
      refine wpAnyH_ready (rs:=[10]) (by kernel_rfl) (by simp) ?_
      refine AllReadyH.cons rfl (fun K hK=> ?_) AllReadyH.nil
      go_simp
      refine hK.out _ _ trivial (fun hHeld=> ?_)
      clear hK K
      try simp only[pls]
      refine wpAnyH_done (by kernel_rfl) ?_ _
      go_wp2_with fail
      go_roundw
      case rel=>
       refine⟨acc++[u4],r4,f',_,_,zq STEP,by omega,by omega,by rw[List.length_append,List.length_singleton];omega,zq NI⟩
      case measure=>rw[(zq NI).rd.left,(zq HI).rd.left];exact hl4
     ·have FIN:Hid (Yq r= .inl (q4,y4)):=by show _=_;rw[zq ST,zq HS,ku (.inr (zq HZ)) eu]
      have BF:=zk ((Bu2.bu (zq BU2) (zq HI).bu (by omega)).then ((Bu.of (zY b3 (zX (k:=1) (w:=w3) (B:=w3.heap.size)))).then bu4))
      clear eu
      unfold xv
      go_wp2_with fail
      exact⟨rfl,.inr ⟨q4,y4,zq FIN,rfl,zq BF⟩⟩
    ·go_simp
     refine hK.out _ _ trivial (fun hHeld=> ?_)
     clear hK K
     try simp only[pls]
     refine tkh 5 ?_ rfl (by kernel_rfl) (fun _ _ _ h=>h) ?_ (by assumption) ?_
     rotate_left
     ·intro w hSw;(try dsimp only at hSw);go_simp;(try with_reducible rfl)
     try simp only[pls]
     refine wpAnyH_ready (rs:=[1,6]) (by kernel_rfl) (by simp) ?_
     refine AllReadyH.cons rfl (fun K hK=> ?_) (AllReadyH.cons rfl (fun K hK=> ?_) AllReadyH.nil)
     ·go_simp
      refine hK.out _ _ trivial (fun hHeld=> ?_)
      clear hK K
      try simp only[pls]
      refine wpAnyH_ready (rs:=[6]) (by kernel_rfl) (by simp) ?_
      refine AllReadyH.cons rfl (fun K hK=> ?_) AllReadyH.nil
      go_simp
      refine(zq CU _ (zY b3 zX)).mono ?_
      clear CU
      rintro e w4 (⟨v4,u4,r4,eu,rfl,ru4,E4,hl4,rd4,bu4⟩|⟨q4,y4,eu,rfl,bu4⟩)
      ·have STEP:Hid (xW (r.length+1) [] r1=xW f' (acc++[u4]) r4):=(zq HS).trans (j8 (.inr (zq HZ)) eu)
       have hmost:=ZX eu
       have B4:=zY b3 (zX (k:=1) (w:=w3) (B:=w3.heap.size))
       have HRU:=zk ru4
       obtain⟨z0,z1,z2,z3,z4,z5,z6,z7,z8,z9,z10,z11,z12,z13,z14,rfl⟩:=ru4.form
       have HO:=vZ (j5 B4 (zq HI).own) bu4 (by omega)
       have hs4:=bu4.size
       have hs3:=B4.size
       have hs0:=(zq HI).bu.size
       have f4:w4.heap[F]? =some (.cells #[.slice aK KL.length cK,.slice q5 acc.length c5] 54):=bu4.at ((B4.block F hlF).trans (zq HI).fb) (by omega)
       obtain⟨⟨g0,g1⟩,k0,k1⟩:=yk f4
       have g1':∀o,(w4.alloc o).cell? ⟨F,1,none⟩=some (.slice q5 acc.length c5):=fun o=>((Below.new1 o).cell (zJ g1)).trans g1
       have hF4:F<w4.heap.size:=(Array.getElem?_eq_some_iff.1 f4).1
       have HBU4:=zk bu4
       have HRD4:=zk rd4
       have HE4:=zk E4
       obtain⟨ti,hi0,hz0,hz1,hz2⟩:=info_parts ZQ
       clear ru4 bu4 rd4 E4 eu
       (try clear CS)
       refine hK.out _ _ trivial (fun hHeld=> ?_)
       clear hK K
       try simp only[pls]
       refine wpAnyH_ready (rs:=[7]) (by kernel_rfl) (by simp) ?_
       refine AllReadyH.cons rfl (fun K hK=> ?_) AllReadyH.nil
       go_simp
       refine hK.out _ _ trivial (fun hHeld=> ?_)
       clear hK K
       try simp only[pls]
       refine wpAnyH_ready (rs:=[8]) (by kernel_rfl) (by simp) ?_
       refine AllReadyH.cons rfl (fun K hK=> ?_) AllReadyH.nil
       refine step_append_lies _ rfl _ _ 52 rfl w2.heap.size 151 ti _ 9 136 Tryz.underlying52 hi0 hz0 hz1 hz2 rfl (by omega) _ _ _ rfl (HO.alloc _) ⟨w4.heap.size,0,none⟩ 1 1 [.string z0,.int .i64 z1,.int .i64 z2,.string z3,.slice z4 z5 z6,.slice z7 z8 z9,.int .i64 z10,.slice z11 z12 z13,.int .i64 z14] rfl rfl (vW _ _ _ _ _ _ _ _ _ _ _ rfl) (by simp[Value.oneCell']) (by omega) (by unfold maxLen;omega) (by omega) (by simp;omega) (w4.heap.size+1) (by simp) ?_
       intro gg cap1 w5 hown1 hgrow hat hlt1
       have lo:=HO.lt
       have f5:w5.heap[F]? =some (.cells #[.slice aK KL.length cK,.slice q5 acc.length c5] 54):=(hgrow.block F (by rw[World.size_alloc];omega) (fun e=>by have:=(lo F e.symm).1;omega)).trans (zK f4 _)
       obtain⟨⟨n0,n1⟩,n2,n3⟩:=yk f5
       have NI:=zk (RowR.snoc (zq HI) (by omega) (by omega) (by omega) (by omega) (by omega) B4 (zq HBU4) (zq HE4) (zq HRD4) (zq HRU) hown1 hgrow (by rcases hat with h|h;exact .inl h;exact .inr (by simp[h])))
       clear g0 g1 g1' k0 k1 f4 hgrow hat hlt1 hown1 HO lo
       refine hK.out _ _ trivial (fun hHeld=> ?_)
       clear hK K
       try simp only[pls]
       refine tkh 9 ?_ rfl (by kernel_rfl) (fun _ _ _ h=>h) ?_ (by assumption) ?_
       rotate_left
       ·intro w hSw;(try dsimp only at hSw);go_simp;(try with_reducible rfl)
       try simp only[pls]
       refine wpAnyH_ready (rs:=[10]) (by kernel_rfl) (by simp) ?_
       refine AllReadyH.cons rfl (fun K hK=> ?_) AllReadyH.nil
       go_simp
       refine hK.out _ _ trivial (fun hHeld=> ?_)
       clear hK K
       try simp only[pls]
       refine wpAnyH_done (by kernel_rfl) ?_ _
       go_wp2_with fail
       go_roundw
       case rel=>
        refine⟨acc++[u4],r4,f',_,_,zq STEP,by omega,by omega,by rw[List.length_append,List.length_singleton];omega,zq NI⟩
       case measure=>rw[(zq NI).rd.left,(zq HI).rd.left];exact hl4
      ·have FIN:Hid (Yq r= .inl (q4,y4)):=by show _=_;rw[zq ST,zq HS,ku (.inr (zq HZ)) eu]
       have BF:=zk ((Bu2.bu (zq BU2) (zq HI).bu (by omega)).then ((Bu.of (zY b3 (zX (k:=1) (w:=w3) (B:=w3.heap.size)))).then bu4))
       clear eu
       unfold xv
       go_wp2_with fail
       exact⟨rfl,.inr ⟨q4,y4,zq FIN,rfl,zq BF⟩⟩
     ·go_simp
      refine(zq CU _ (zY b3 zX)).mono ?_
      clear CU
      rintro e w4 (⟨v4,u4,r4,eu,rfl,ru4,E4,hl4,rd4,bu4⟩|⟨q4,y4,eu,rfl,bu4⟩)
      ·have STEP:Hid (xW (r.length+1) [] r1=xW f' (acc++[u4]) r4):=(zq HS).trans (j8 (.inr (zq HZ)) eu)
       have hmost:=ZX eu
       have B4:=zY b3 (zX (k:=1) (w:=w3) (B:=w3.heap.size))
       have HRU:=zk ru4
       obtain⟨z0,z1,z2,z3,z4,z5,z6,z7,z8,z9,z10,z11,z12,z13,z14,rfl⟩:=ru4.form
       have HO:=vZ (j5 B4 (zq HI).own) bu4 (by omega)
       have hs4:=bu4.size
       have hs3:=B4.size
       have hs0:=(zq HI).bu.size
       have f4:w4.heap[F]? =some (.cells #[.slice aK KL.length cK,.slice q5 acc.length c5] 54):=bu4.at ((B4.block F hlF).trans (zq HI).fb) (by omega)
       obtain⟨⟨g0,g1⟩,k0,k1⟩:=yk f4
       have g1':∀o,(w4.alloc o).cell? ⟨F,1,none⟩=some (.slice q5 acc.length c5):=fun o=>((Below.new1 o).cell (zJ g1)).trans g1
       have hF4:F<w4.heap.size:=(Array.getElem?_eq_some_iff.1 f4).1
       have HBU4:=zk bu4
       have HRD4:=zk rd4
       have HE4:=zk E4
       obtain⟨ti,hi0,hz0,hz1,hz2⟩:=info_parts ZQ
       clear ru4 bu4 rd4 E4 eu
       (try clear CS)
       refine hK.out _ _ trivial (fun hHeld=> ?_)
       clear hK K
       try simp only[pls]
       refine wpAnyH_ready (rs:=[1,7]) (by kernel_rfl) (by simp) ?_
       refine AllReadyH.cons rfl (fun K hK=> ?_) (AllReadyH.cons rfl (fun K hK=> ?_) AllReadyH.nil)
       ·go_simp
        refine hK.out _ _ trivial (fun hHeld=> ?_)
        clear hK K
        try simp only[pls]
        refine wpAnyH_ready (rs:=[7]) (by kernel_rfl) (by simp) ?_
        refine AllReadyH.cons rfl (fun K hK=> ?_) AllReadyH.nil
        go_simp
        refine hK.out _ _ trivial (fun hHeld=> ?_)
        clear hK K
        try simp only[pls]
        refine wpAnyH_ready (rs:=[8]) (by kernel_rfl) (by simp) ?_
        refine AllReadyH.cons rfl (fun K hK=> ?_) AllReadyH.nil
        refine step_append_lies _ rfl _ _ 52 rfl w2.heap.size 151 ti _ 9 136 Tryz.underlying52 hi0 hz0 hz1 hz2 rfl (by omega) _ _ _ rfl (HO.alloc _) ⟨w4.heap.size,0,none⟩ 1 1 [.string z0,.int .i64 z1,.int .i64 z2,.string z3,.slice z4 z5 z6,.slice z7 z8 z9,.int .i64 z10,.slice z11 z12 z13,.int .i64 z14] rfl rfl (vW _ _ _ _ _ _ _ _ _ _ _ rfl) (by simp[Value.oneCell']) (by omega) (by unfold maxLen;omega) (by omega) (by simp;omega) (w4.heap.size+1) (by simp) ?_
        intro gg cap1 w5 hown1 hgrow hat hlt1
        have lo:=HO.lt
        have f5:w5.heap[F]? =some (.cells #[.slice aK KL.length cK,.slice q5 acc.length c5] 54):=(hgrow.block F (by rw[World.size_alloc];omega) (fun e=>by have:=(lo F e.symm).1;omega)).trans (zK f4 _)
        obtain⟨⟨n0,n1⟩,n2,n3⟩:=yk f5
        have NI:=zk (RowR.snoc (zq HI) (by omega) (by omega) (by omega) (by omega) (by omega) B4 (zq HBU4) (zq HE4) (zq HRD4) (zq HRU) hown1 hgrow (by rcases hat with h|h;exact .inl h;exact .inr (by simp[h])))
        clear g0 g1 g1' k0 k1 f4 hgrow hat hlt1 hown1 HO lo
        refine hK.out _ _ trivial (fun hHeld=> ?_)
        clear hK K
        try simp only[pls]
        refine tkh 9 ?_ rfl (by kernel_rfl) (fun _ _ _ h=>h) ?_ (by assumption) ?_
        rotate_left
        ·intro w hSw;(try dsimp only at hSw);go_simp;(try with_reducible rfl)
        try simp only[pls]
        refine wpAnyH_ready (rs:=[10]) (by kernel_rfl) (by simp) ?_
        refine AllReadyH.cons rfl (fun K hK=> ?_) AllReadyH.nil
        go_simp
        refine hK.out _ _ trivial (fun hHeld=> ?_)
        clear hK K
        try simp only[pls]
        refine wpAnyH_done (by kernel_rfl) ?_ _
        go_wp2_with fail
        go_roundw
        case rel=>
         refine⟨acc++[u4],r4,f',_,_,zq STEP,by omega,by omega,by rw[List.length_append,List.length_singleton];omega,zq NI⟩
        case measure=>rw[(zq NI).rd.left,(zq HI).rd.left];exact hl4
       ·go_simp
        refine hK.out _ _ trivial (fun hHeld=> ?_)
        clear hK K
        try simp only[pls]
        refine wpAnyH_ready (rs:=[1]) (by kernel_rfl) (by simp) ?_
        refine AllReadyH.cons rfl (fun K hK=> ?_) AllReadyH.nil
        go_simp
        refine hK.out _ _ trivial (fun hHeld=> ?_)
        clear hK K
        try simp only[pls]
        refine wpAnyH_ready (rs:=[8]) (by kernel_rfl) (by simp) ?_
        refine AllReadyH.cons rfl (fun K hK=> ?_) AllReadyH.nil
        refine step_append_lies _ rfl _ _ 52 rfl w2.heap.size 151 ti _ 9 136 Tryz.underlying52 hi0 hz0 hz1 hz2 rfl (by omega) _ _ _ rfl (HO.alloc _) ⟨w4.heap.size,0,none⟩ 1 1 [.string z0,.int .i64 z1,.int .i64 z2,.string z3,.slice z4 z5 z6,.slice z7 z8 z9,.int .i64 z10,.slice z11 z12 z13,.int .i64 z14] rfl rfl (vW _ _ _ _ _ _ _ _ _ _ _ rfl) (by simp[Value.oneCell']) (by omega) (by unfold maxLen;omega) (by omega) (by simp;omega) (w4.heap.size+1) (by simp) ?_
        intro gg cap1 w5 hown1 hgrow hat hlt1
        have lo:=HO.lt
        have f5:w5.heap[F]? =some (.cells #[.slice aK KL.length cK,.slice q5 acc.length c5] 54):=(hgrow.block F (by rw[World.size_alloc];omega) (fun e=>by have:=(lo F e.symm).1;omega)).trans (zK f4 _)
        obtain⟨⟨n0,n1⟩,n2,n3⟩:=yk f5
        have NI:=zk (RowR.snoc (zq HI) (by omega) (by omega) (by omega) (by omega) (by omega) B4 (zq HBU4) (zq HE4) (zq HRD4) (zq HRU) hown1 hgrow (by rcases hat with h|h;exact .inl h;exact .inr (by simp[h])))
        clear g0 g1 g1' k0 k1 f4 hgrow hat hlt1 hown1 HO lo
        refine hK.out _ _ trivial (fun hHeld=> ?_)
        clear hK K
        try simp only[pls]
        refine tkh 9 ?_ rfl (by kernel_rfl) (fun _ _ _ h=>h) ?_ (by assumption) ?_
        rotate_left
        ·intro w hSw;(try dsimp only at hSw);go_simp;(try with_reducible rfl)
        try simp only[pls]
        refine wpAnyH_ready (rs:=[10]) (by kernel_rfl) (by simp) ?_
        refine AllReadyH.cons rfl (fun K hK=> ?_) AllReadyH.nil
        go_simp
        refine hK.out _ _ trivial (fun hHeld=> ?_)
        clear hK K
        try simp only[pls]
        refine wpAnyH_done (by kernel_rfl) ?_ _
        go_wp2_with fail
        go_roundw
        case rel=>
         refine⟨acc++[u4],r4,f',_,_,zq STEP,by omega,by omega,by rw[List.length_append,List.length_singleton];omega,zq NI⟩
        case measure=>rw[(zq NI).rd.left,(zq HI).rd.left];exact hl4
      ·have FIN:Hid (Yq r= .inl (q4,y4)):=by show _=_;rw[zq ST,zq HS,ku (.inr (zq HZ)) eu]
       have BF:=zk ((Bu2.bu (zq BU2) (zq HI).bu (by omega)).then ((Bu.of (zY b3 (zX (k:=1) (w:=w3) (B:=w3.heap.size)))).then bu4))
       clear eu
       unfold xv
       go_wp2_with fail
       exact⟨rfl,.inr ⟨q4,y4,zq FIN,rfl,zq BF⟩⟩
end Go.Proofs.YtcblkmlcbedomaaGreatDoor.R
namespace Go.Proofs.YtcblkmlcbedomaaGreatDoor.F
open Go.RowKit Go.Proofs.YtcblkmlcbedomaaGreatDoor.T Go.Proofs.YtcblkmlcbedomaaGreatDoor.R
theorem smP_up:∀(n m:Nat),n≤m→∀p,smP n p→smP m p:=by
 intro n
 induction n with
 |zero=>intro m _ p h;exact h.elim
 |succ n ih=>
  intro m hm p h
  cases m with
  |zero=>omega
  |succ m=>
   obtain⟨h1,h2,h3,h4⟩:=h
   exact⟨h1,h2,h3,fun x hx=>ih m (by omega) x (h4 x hx)⟩
def RuleN (n:Nat) (B:Nat) (w:World) (v:Value) (u:RU):Prop:=
 ∃x0 x1 x2 x3 x4 a c,v= .agg #[.string (strOfNums u.1),.int .i64 u.2.1,x0,x1,x2,x3,x4,.slice a u.2.2.2.1.length c,.int .i64 u.2.2.2.2]∧U.zv u.1∧yQ u.2.1∧PartB B n w (.agg #[x0,x1,x2,x3,x4]) u.2.2.1∧Rs w a u.2.2.2.1.length c u.2.2.2.1∧Lo B a u.2.2.2.1.length∧yQ u.2.2.2.2
theorem RuleN.up {n m:Nat} (h:n≤m) {B:Nat} {w:World} {v:Value} {u:RU} (k:RuleN n B w v u):RuleN m B w v u:=by
 obtain⟨x0,x1,x2,x3,x4,a,c,e,h1,h2,h3,h4⟩:=k
 exact⟨x0,x1,x2,x3,x4,a,c,e,h1,h2,PartB.up n m h _ _ h3,h4⟩
theorem RuleN.kept {n:Nat} {B B':Nat} {w X:World} {v:Value} {u:RU} (h:RuleN n B w v u) (k:∀g,g<B→g<B'∧X.heap[g]? =w.heap[g]?) (kr:KR w X):RuleN n B' X v u:=by
 obtain⟨x0,x1,x2,x3,x4,a,c,e,h1,h2,h3,h4,h5,h6⟩:=h
 obtain⟨h4',h5'⟩:=rs_lo k h4 h5
 exact⟨x0,x1,x2,x3,x4,a,c,e,h1,h2,PartB.kept k kr n _ _ h3,h4',h5',h6⟩
theorem rules_n {D:Nat→Prop} {w:World} (hD:∀g,D g→g<w.heap.size):∀(l:List RU) (cs:List Value),RuC (RuleV D w) l cs→∃n,RuC (RuleN n w.heap.size w) l cs:=by
 intro l
 induction l with
 |nil=>intro cs h;exact⟨0,h⟩
 |cons u l ih=>
  intro cs h
  obtain⟨x0,x1,x2,x3,x4,x5,x6,x7,x8,cs',e,hv,ht⟩:=h
  obtain⟨n,hn⟩:=ih _ ht
  obtain⟨y0,y1,y2,y3,y4,a,c,e1,h1,h2,⟨k,h3⟩,h4,h5,h6⟩:=hv
  exact⟨max n k,x0,x1,x2,x3,x4,x5,x6,x7,x8,cs',e,⟨y0,y1,y2,y3,y4,a,c,e1,h1,h2,PartB.up k _ (Nat.le_max_right ..) _ _ (PartB.of hD _ _ _ h3),h4,ty_lo h5 _,h6⟩,RuC.mono (fun v p hp=>hp.up (Nat.le_max_left ..)) _ _ hn⟩
theorem RuC.at {P:Value→RU→Prop}:∀(l:List RU) (cs:List Value) (j:Nat),RuC P l cs→j<l.length→∃c0 c1 c2 c3 c4 c5 c6 c7 c8 u,cs[9*j]? =some c0∧cs[9*j+1]? =some c1∧cs[9*j+2]? =some c2∧cs[9*j+3]? =some c3∧cs[9*j+4]? =some c4∧cs[9*j+5]? =some c5∧cs[9*j+6]? =some c6∧cs[9*j+7]? =some c7∧cs[9*j+8]? =some c8∧P (.agg #[c0,c1,c2,c3,c4,c5,c6,c7,c8]) u∧l.drop j=u::l.drop (j+1)∧u∈l:=by
 intro l
 induction l with
 |nil=>intro cs j _ hj;simp at hj
 |cons x l ih=>
  intro cs j h hj
  obtain⟨c0,c1,c2,c3,c4,c5,c6,c7,c8,cs',rfl,hv,ht⟩:=h
  cases j with
  |zero=>exact⟨c0,c1,c2,c3,c4,c5,c6,c7,c8,x,rfl,rfl,rfl,rfl,rfl,rfl,rfl,rfl,rfl,hv,rfl,List.mem_cons_self ..⟩
  |succ j=>
   obtain⟨d0,d1,d2,d3,d4,d5,d6,d7,d8,u,h0,h1,h2,h3,h4,h5,h6,h7,h8,hp,hd,hm⟩:=ih cs' j ht (by simp at hj;omega)
   have key:∀(i:Nat) (v:Value),cs'[9*j+i]? =some v→(c0::c1::c2::c3::c4::c5::c6::c7::c8::cs')[9*(j+1)+i]? =some v:=fun i v hv=>by
    rw[show 9*(j+1)+i=(9*j+i)+1+1+1+1+1+1+1+1+1 by omega]
    simpa using hv
   exact⟨d0,d1,d2,d3,d4,d5,d6,d7,d8,u,key 0 _ h0,key 1 _ h1,key 2 _ h2,key 3 _ h3,key 4 _ h4,key 5 _ h5,key 6 _ h6,key 7 _ h7,key 8 _ h8,hp,by simpa using hd,List.mem_cons_of_mem _ hm⟩
theorem rules_at {B n:Nat} {w:World} {a:Option Addr} {len cap:Nat} {L:List RU} {cs:List Value} (hr:Row5 (fun g=>g<B) w a len cap cs) (hc:RuC (RuleN n B w) L cs) (j:Nat) (hj:j<L.length):
  ∃g off k S a1 n1 c1 a2 n2 c2 aN cN u,a=some ⟨g,off,none⟩∧g<w.heap.size∧w.cell? ⟨g,off+9*j,none⟩=some (.string (strOfNums u.1))∧w.cell? ⟨g,off+9*j+1,none⟩=some (.int .i64 u.2.1)∧w.cell? ⟨g,off+9*j+2,none⟩=some (.int .i64 k)∧w.cell? ⟨g,off+9*j+3,none⟩=some (.string S)∧w.cell? ⟨g,off+9*j+4,none⟩=some (.slice a1 n1 c1)∧w.cell? ⟨g,off+9*j+5,none⟩=some (.slice a2 n2 c2)∧w.cell? ⟨g,off+9*j+6,none⟩=some (.int .i64 (atP u.2.2.1))∧w.cell? ⟨g,off+9*j+7,none⟩=some (.slice aN u.2.2.2.1.length cN)∧w.cell? ⟨g,off+9*j+8,none⟩=some (.int .i64 u.2.2.2.2)∧
   PartB B n w (.agg #[.int .i64 k,.string S,.slice a1 n1 c1,.slice a2 n2 c2,.int .i64 (atP u.2.2.1)]) u.2.2.1∧U.zv u.1∧Rs w aN u.2.2.2.1.length cN u.2.2.2.1∧Lo B aN u.2.2.2.1.length∧L.drop j=u::L.drop (j+1)∧u∈L:=by
 obtain⟨d0,d1,d2,d3,d4,d5,d6,d7,d8,u,h0,h1,h2,h3,h4,h5,h6,h7,h8,hv,hd,hm⟩:=RuC.at L cs j hc hj
 obtain⟨x0,x1,x2,x3,x4,aN,cN,ev,q1,q2,q3,q4,q5,q6⟩:=hv
 simp only[Value.agg.injEq,Array.mk.injEq,List.cons.injEq,and_true]at ev
 obtain⟨rfl,rfl,rfl,rfl,rfl,rfl,rfl,rfl,rfl⟩:=ev
 obtain⟨k,S,a1,n1,c1,a2,n2,c2,rfl,rfl,rfl,rfl,rfl,-⟩:=PartB.form q3
 obtain⟨g,off,ha,-,q0⟩:=hr.2.2 _ _ h0
 have key:∀i u,cs[9*j+i]? =some u→w.cell? ⟨g,off+9*j+i,none⟩=some u:=fun i u hu=>by
  obtain⟨g',off',ha',-,q⟩:=hr.2.2 _ _ hu
  rw[ha]at ha'
  injection ha' with ha'
  injection ha' with e1 e2
  subst e1;subst e2
  rw[Nat.add_assoc];exact q
 exact⟨g,off,k,S,a1,n1,c1,a2,n2,c2,aN,cN,u,ha,zJ q0,q0,key 1 _ h1,key 2 _ h2,key 3 _ h3,key 4 _ h4,key 5 _ h5,key 6 _ h6,key 7 _ h7,key 8 _ h8,q3,q1,q4,q5,hd,hm⟩
theorem ruleA_or {ns:List (List Int)} {n:Nat} {p:PT} {m:Mk} (h:kdP p=5):kj ns n p m=jx (zQ ns n 0) (psP p) m []:=by unfold kj;rw[if_pos h]
theorem ruleA_one {ns:List (List Int)} {n:Nat} {p:PT} {m:Mk} (h:kdP p≠5):kj ns n p m=((zQ ns n 0 m [] p).1,[(zQ ns n 0 m [] p).2]):=by unfold kj;rw[if_neg h]
theorem frule_l {ns:List (List Int)} {n:Nat} {D:Nat→Prop} {w:World} {B b m:Nat} {s:Mk} (pv:Value) (p:PT) (hB:B≤w.heap.size) (hD:∀k,w.heap.size≤k→D k) (h:Mak D w B b m ns 0 s) (hp:PartB B n w pv p) (hs:smP n p):
  Calls Tryz.prog 113 #[.pointer (some ⟨b,0,none⟩),pv] w (AlR D B b m ns 0 w (kj ns n p s)):=by
 obtain⟨mv,hm⟩:=h
 have B1:∀o,Below w.heap.size w (w.alloc o):=fun o=>Below.new1 o
 have CE:=zk (fun W (bW:Below w.heap.size w W)=>feach_l (part_c ns n 0) (D:=D) (w:=W) pv p 0 0 none 0 0 (by have:=bW.size;omega) (fun k hk=>hD k (by have:=bW.size;omega)) ⟨mv,hm.later bW⟩ (PartB.kept (fun g hg=>⟨hg,bW.block g (by omega)⟩) (KR.of bW) (n+1) _ p (PartB.up n (n+1) (Nat.le_succ n) _ _ hp)) (smP_up n (n+1) (Nat.le_succ n) p hs))
 have CP:=zk (fun W (bW:Below w.heap.size w W)=>part_c ns n 0 D W B b m s (.slice none 0 0) [] pv p (by have:=bW.size;omega) (fun k hk=>hD k (by have:=bW.size;omega)) ⟨mv,(hm.later bW).weak (fun g _ hd=>⟨hd,by simp[Value.ownBlock]⟩)⟩ (LV.nil _ _) (PartB.kept (fun g hg=>⟨hg,bW.block g (by omega)⟩) (KR.of bW) n _ p hp) hs)
 obtain⟨k,S,a1,n1,c1,a2,n2,c2,q,rfl,hk,-⟩:=jq (PartB.up n (n+1) (Nat.le_succ n) _ _ hp)
 have HDD:=zk hD
 have hlt:=hm.lt
 by_cases h5:k=5
 ·have FIN:Hid (kj ns n p s=jx (zQ ns n 0) (psP p) s []):=ruleA_or (hk.symm.trans h5)
  have hbb:(k==5)=true:=by rw[h5];rfl
  clear hm hp hs hD hk h5 CP
  generalize jx (zQ ns n 0) (psP p) s []=r at*
  go_enter Tryz.func113,Tryz.ntmps113
  go_wp2_with fail
  refine(zq CE _ (B1 _)).mono ?_
  clear CE
  rintro e w1 ⟨av,rfl,alt1,mk1,fl1,l9⟩
  obtain⟨va1,va2,rfl,-,-⟩:=alt1.form
  have RES:=zk (show AlR D B b m ns 0 w r (.returned (.slice va1 r.2.length va2)) w1 from⟨_,rfl,alt1,mk1,(Fl.of (x:=none) (B1 _)).then fl1 (fun g e=>by cases e),l9⟩)
  clear alt1 mk1 fl1 l9
  go_wp2_with fail
  go_ret
  rw[zq FIN]
  exact zq RES
 ·have FIN:Hid (kj ns n p s=((zQ ns n 0 s [] p).1,[(zQ ns n 0 s [] p).2])):=ruleA_one (fun c=>h5 (hk.trans c))
  have hbb:(k==5)=false:=beq_eq_false_iff_ne.2 h5
  clear hm hp hs hD hk h5 CE
  generalize zQ ns n 0 s [] p=r at*
  go_enter Tryz.func113,Tryz.ntmps113
  go_wp2_with fail
  refine(zq CP _ (B1 _)).mono ?_
  clear CP
  rintro e w1 lf
  have lf:=lf.mono_w (Fl.of (x:=none) (B1 _))
  obtain⟨v1,rfl,lv1,⟨mv1,mk1⟩,fl1,nx1⟩:=lf
  have s1:=fl1.size
  have I1:=zk (show InvL D B b m ns 0 (.slice none 0 0) w r.1 v1 r.2 w1 from⟨lv1,⟨mv1,mk1⟩,fl1,nx1⟩)
  obtain⟨ya,yc,rfl⟩:=lv1.form
  clear lv1 mk1 fl1 nx1
  go_wp2_with fail
  go_ret
  rw[zq FIN]
  obtain⟨lv,⟨mv3,mk3⟩,fl3,nx3⟩:=(zq I1).more (Below.new1 (.cells #[.slice ya r.2.length yc] 44))
  exact⟨_,rfl,AltV.one (Kp.weak _ (fun _ h=>h)) (lv.symsN nx3 (zq HDD)) (heap_alloc_new _ _) (zq HDD _ s1),⟨mv3,mk3.weak (fun g _ hd=>hd.1)⟩,fl3,by simp⟩
end Go.Proofs.YtcblkmlcbedomaaGreatDoor.F
