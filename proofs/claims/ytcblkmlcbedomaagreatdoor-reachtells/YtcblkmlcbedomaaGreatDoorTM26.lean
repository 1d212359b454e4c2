/- Parts of the proof that stand ahead of it (T 26). -/
import Derived.Test.YtcblkmlcbedomaaGreatDoorTM25
set_option linter.unusedVariables false
set_option linter.unusedSimpArgs false
set_option maxRecDepth 20000
set_option maxHeartbeats 16000000
namespace Go.Proofs.YtcblkmlcbedomaaGreatDoor.R
open Go.RowKit Go.Proofs.YtcblkmlcbedomaaGreatDoor.T
theorem Rd.to {w X:World} {b G:Nat} {v:Value} {r:List TN} {m:Nat} {d:Int} {cs:Array Value} {fr:Nat×Nat} (h:Lf w G v r) (hb:w.heap[b]? =some (.cells cs 142 fr)) (bu:Bu b w X) (hX:X.heap[b]? =some (.cells #[v,.map (some m),.int .i64 d] 142)):Rd X b G r m d:=⟨v,hX,Lf.bu bu hb h⟩
theorem Bu.setTop {b:Nat} {w W:World} (h:Bu b w W) {g:Nat} (hg:w.heap.size≤g) (i:Nat) (x:Value):Bu b w (W.setCell ⟨g,i,none⟩ x):=
 ⟨h.os,h.tape,h.output,by simp;exact h.size,fun k hk hn=>(Below.heap_setCell W ⟨g,i,none⟩ x k (by simp only;omega)).trans (h.block k hk hn)⟩
theorem Bu.setOwn {b:Nat} {w W:World} (h:Bu b w W) (i:Nat) (x:Value):Bu b w (W.setCell ⟨b,i,none⟩ x):=h.then (Bu.set b i W x)
theorem Bu.alloc {b:Nat} {w W:World} (h:Bu b w W) (o:Obj):Bu b w (W.alloc o):=h.then (Bu.of (Below.new1 o))
theorem set4_at {W:World} {g:Nat} {y0 y1 y2 y3:Value} {t:TypeId} (h:W.heap[g]? =some (.cells #[y0,y1,y2,y3] t)) (x0 x1 x2 x3:Value):
  ((((W.setCell ⟨g,0,none⟩ x0).setCell ⟨g,1,none⟩ x1).setCell ⟨g,2,none⟩ x2).setCell ⟨g,3,none⟩ x3).heap[g]? =some (.cells #[x0,x1,x2,x3] t):=by
 have h0:=heap_setCell_same W g 0 _ t x0 h
 have h1:=heap_setCell_same _ g 1 _ t x1 h0
 have h2:=heap_setCell_same _ g 2 _ t x2 h1
 have h3:=heap_setCell_same _ g 3 _ t x3 h2
 simpa using h3
theorem set1_at {W:World} {g:Nat} {y0 y1 y2:Value} {t:TypeId} (h:W.heap[g]? =some (.cells #[y0,y1,y2] t)) (x0:Value):
  (W.setCell ⟨g,0,none⟩ x0).heap[g]? =some (.cells #[x0,y1,y2] t):=by
 have h0:=heap_setCell_same W g 0 _ t x0 h
 simpa using h0
theorem zK {W:World} {k:Nat} {o:Obj} (h:W.heap[k]? =some o) (n:Obj):(W.alloc n).heap[k]? =some o:=((Below.new1 n).block k (Array.getElem?_eq_some_iff.1 h).1).trans h
theorem zw {W:World} {k g i:Nat} {o:Obj} (h:W.heap[k]? =some o) (hn:k≠g) (x:Value):(W.setCell ⟨g,i,none⟩ x).heap[k]? =some o:=(Below.heap_setCell W ⟨g,i,none⟩ x k hn).trans h
theorem res_tok {fn:Func} {p:Tmp} (h:fn.results= #[.cell p 135]) {tmps:Array Value} {g:Nat} (hp:tmps.getD p undef= .pointer (some ⟨g,0,none⟩)) {X:World} {x0 x1 x2 x3:Value} (hX:X.heap[g]? =some (.cells #[x0,x1,x2,x3] 135)):
  (results fn tmps).run Tryz.prog X= .ok (.agg #[x0,x1,x2,x3]) X:=by
 obtain⟨k0,k1,k2,k3⟩:=(q9 hX).1
 have hp2:tmps[p]?.getD undef= .pointer (some ⟨g,0,none⟩):=by rw[←hp];simp[Array.getD_eq_getD_getElem?]
 simp only[results,h]
 simp[hp2,go_sem,k0,k1,k2,k3]
theorem TkR.kept {w X:World} {v:Value} {r:List TN} (h:TkR w v r) (k:∀(g:Nat) (cs:Array Value) (fr:Nat×Nat),w.heap[g]? =some (.cells cs 51 fr)→X.heap[g]? =some (.cells cs 51 fr)):TkR X v r:=by
 obtain⟨a,c,e,hr,hy⟩:=h
 have key:∀g off,a=some ⟨g,off,none⟩→X.heap[g]? =w.heap[g]? :=fun g off e=>by
  obtain⟨cs,fr,hk⟩:=hy g off e
  rw[hk]
  exact k g cs fr hk
 exact⟨a,c,e,rs_kept hr key,ty_kept hy key⟩
theorem yq {w:World} {g b:Nat} {cs cs':Array Value} {t t':TypeId} {fr fr':Nat×Nat} (h:w.heap[g]? =some (.cells cs t fr)) (h':w.heap[b]? =some (.cells cs' t' fr')) (ht:t≠t'):g≠b:=by
 intro e
 subst e
 rw[h]at h'
 injection h' with h'
 injection h' with _ h'
 exact ht h'
theorem Zz (w:World) (b G:Nat) (r:List TN) (m:Nat) (d:Int) (h:Rd w b G r m d) (hne:r≠[]) (ht:r.tail≠[]):
  Calls Tryz.prog 149 #[.pointer (some ⟨b,0,none⟩)] w fun e w'=>∃v,e= .returned v∧TkR w' v r∧Rd w' b G r.tail m d∧Bu b w w':=by
 have CN:=zk (fun W (bW:Below w.heap.size w W)=>next_l W b G r m d (h.later bW) hne)
 obtain⟨v,h1,h2⟩:=h
 obtain⟨off,cap,a,c,rfl,l1,l2,lt,-,-,-,-,-,-,hl⟩:=h2.head hne
 have hbl:=(Array.getElem?_eq_some_iff.1 h1).1
 have HB:∀o,Below w.heap.size w (w.alloc o):=fun o=>Below.new1 o
 have HL:=zk hl
 have H1:=zk h1
 unfold maxLen at l2
 clear h2 hl
 have hn1:1≤r.tail.length:=by cases hq:r.tail with|nil=>exact absurd hq ht|cons x y=>simp
 have hc1:¬cap=1:=by omega
 have hc2:2≤cap:=by omega
 have EN:=zk (rfl:r.tail.length=r.tail.length)
 generalize hn:r.tail.length=n at*
 clear hn
 go_enter Tryz.func149,Tryz.ntmps149
 go_wp2_with fail
 refine(zq CN _ (HB _)).mono ?_
 rintro e w1 ⟨v,rfl,tv,b1⟩
 clear CN
 have HT:=zk tv
 obtain⟨a1,c1,rfl,-,-⟩:=tv
 have B1:=zY (HB _) b1
 have h1':w1.heap[b]? =some (.cells #[.slice (some ⟨G,off,none⟩) (n+1) cap,.map (some m),.int .i64 d] 142):=(B1.block b hbl).trans h1
 obtain⟨⟨q0,q1,q2⟩,f0,f1,f2⟩:=jJ h1'
 have HG:=ze b1
 obtain⟨⟨y0,y1,y2,y3⟩,z0,z1,z2,z3⟩:=q9 HG
 have hb1:b<w1.heap.size:=by have:=B1.size;omega
 have hw1:w.heap.size<w1.heap.size:=by have:=b1.size;simp at this;omega
 clear h1
 go_wp2_with fail
 (try simp only[Exit.inBlock,Exit.then])
 refine bodyPost_ret (v:= .agg #[.int .i64 (kd r),.string (strOfNums (tx r)),.slice a1 (rg r).length c1,.int .i64 (pl r:Nat)]) ?_ rfl ⟨_,rfl,?_,?_,?_⟩
 ·exact res_tok rfl rfl (zK (set4_at (zw HG (by omega) _) _ _ _ _) _)
 ·refine TkR.kept (zq HT) fun g' cs fr hk=> ?_
  have n1:=yq hk h1' (by decide)
  have n2:=yq hk HG (by decide)
  exact zK (zw (zw (zw (zw (zw hk n1 _) n2 _) n2 _) n2 _) n2 _) _
 ·refine Rd.to (zq HL) (zq H1) ?_ ?_
  ·exact((((((Bu.of B1).setOwn _ _).setTop (Nat.le_refl _) _ _).setTop (Nat.le_refl _) _ _).setTop (Nat.le_refl _) _ _).setTop (Nat.le_refl _) _ _).alloc _
  ·exact zK (zw (zw (zw (zw (set1_at h1' _) (by omega) _) (by omega) _) (by omega) _) (by omega) _) _
 ·exact((((((Bu.of B1).setOwn _ _).setTop (Nat.le_refl _) _ _).setTop (Nat.le_refl _) _ _).setTop (Nat.le_refl _) _ _).setTop (Nat.le_refl _) _ _).alloc _
theorem tok_field (x0 x1 x2 x3:Value) (W:World):(Instr.field 135 (.agg #[x0,x1,x2,x3]) 3).run Tryz.prog W= .ok x3 W:=by kernel_rfl
theorem tok_field1 (x0 x1 x2 x3:Value) (W:World):(Instr.field 135 (.agg #[x0,x1,x2,x3]) 1).run Tryz.prog W= .ok x1 W:=by kernel_rfl
theorem tok_field2 (x0 x1 x2 x3:Value) (W:World):(Instr.field 135 (.agg #[x0,x1,x2,x3]) 2).run Tryz.prog W= .ok x2 W:=by kernel_rfl
def xv (p:Nat) (why:Int):Ending:= .panicked [{v:= .iface 98 (.agg #[.int .i64 (p:Int),.int .i64 why]),recovered:=false}]
theorem YQ (w:World) (b G:Nat) (r:List TN) (m:Nat) (d:Int) (h:Rd w b G r m d) (hr:Ends r) (ht:r.tail≠[]) (k:Int) (x:List Int) (hx:U.zv x) (hk:R.lk r=(k,x)):
  Calls Tryz.prog 150 #[.pointer (some ⟨b,0,none⟩),.agg #[.int .i64 k,.string (strOfNums x)]] w fun e w'=>∃v,e= .returned v∧TkR w' v r∧Rd w' b G r.tail m d∧Bu b w w':=by
 have CS:=zk (fun W (bW:Below w.heap.size w W)=>sees_l W b G r m d (h.later bW) hr k x hx)
 have CT:=zk (fun W (bW:Below w.heap.size w W)=>Zz W b G r m d (h.later bW) hr.ne ht)
 have hd:decide (R.lk r=(k,x))=true:=decide_eq_true hk
 rw[hd]at CS
 generalize strOfNums x=S at*
 clear hd hx hk hr ht
 have BA:∀o1 o2,Below w.heap.size w ((w.alloc o1).alloc o2):=fun o1 o2=>(Below.new1 o1).alloc (by simp) o2
 go_enter Tryz.func150,Tryz.ntmps150
 go_wp2_with fail
 refine(zq CS _ (BA _ _)).mono ?_
 rintro e w1 ⟨rfl,b1⟩
 clear CS
 have B1:=zY (BA _ _) b1
 go_wp2_with fail
 refine(zq CT _ B1).mono ?_
 rintro e w2 ⟨v,rfl,tv,hr2,bu⟩
 clear CT
 have HT:=zk tv
 obtain⟨a1,c1,rfl,-,-⟩:=tv
 obtain⟨g1,g2⟩:=two_new b1
 have G2:=bu.at g2 (by have:=h.lt;omega)
 obtain⟨⟨y0,y1,y2,y3⟩,z0,z1,z2,z3⟩:=q9 G2
 go_wp2_with fail
 (try simp only[Exit.inBlock,Exit.then])
 refine bodyPost_ret (v:= .agg #[.int .i64 (kd r),.string (strOfNums (tx r)),.slice a1 (rg r).length c1,.int .i64 (pl r:Nat)]) ?_ rfl ⟨_,rfl,?_,?_,?_⟩
 ·exact res_tok rfl rfl (set4_at G2 _ _ _ _)
 ·refine TkR.kept (zq HT) fun g' cs fr hk=> ?_
  have n2:=yq hk G2 (by decide)
  exact zw (zw (zw (zw hk n2 _) n2 _) n2 _) n2 _
 ·have nb:b≠w.heap.size+1:=by have:=h.lt;omega
  have nG:G≠w.heap.size+1:=by have:=h.ltG;omega
  refine hr2.kept ?_ ?_ fun g' cs fr hk=> ?_
  ·simp[Below.heap_setCell,nb]
  ·simp[Below.heap_setCell,nG]
  ·have n2:=yq hk G2 (by decide)
   exact zw (zw (zw (zw hk n2 _) n2 _) n2 _) n2 _
 ·exact(((((Bu.of B1).then bu).setTop (by omega) _ _).setTop (by omega) _ _).setTop (by omega) _ _).setTop (by omega) _ _
theorem need_no (w:World) (b G:Nat) (r:List TN) (m:Nat) (d:Int) (h:Rd w b G r m d) (hr:Ends r) (k:Int) (x:List Int) (hx:U.zv x) (hk:R.lk r≠(k,x)):
  Calls Tryz.prog 150 #[.pointer (some ⟨b,0,none⟩),.agg #[.int .i64 k,.string (strOfNums x)]] w fun e w'=>e=xv (pl r) 3∧Bu b w w':=by
 have CS:=zk (fun W (bW:Below w.heap.size w W)=>sees_l W b G r m d (h.later bW) hr k x hx)
 have CT:=zk (fun W (bW:Below w.heap.size w W)=>next_l W b G r m d (h.later bW) hr.ne)
 have hd:decide (R.lk r=(k,x))=false:=decide_eq_false hk
 rw[hd]at CS
 generalize strOfNums x=S at*
 clear hd hx hk hr
 have BA:∀o1 o2,Below w.heap.size w ((w.alloc o1).alloc o2):=fun o1 o2=>(Below.new1 o1).alloc (by simp) o2
 go_enter Tryz.func150,Tryz.ntmps150
 go_wp2_with fail
 refine(zq CS _ (BA _ _)).mono ?_
 rintro e w1 ⟨rfl,b1⟩
 clear CS
 have B1:=zY (BA _ _) b1
 go_wp2_with fail
 refine(zq CT _ B1).mono ?_
 rintro e w2 ⟨v,rfl,tv,b2⟩
 clear CT
 obtain⟨a1,c1,rfl,-,-⟩:=tv
 have hf:=tok_field
 go_wp2_with fail
 exact⟨rfl,rfl,Bu.of (zY B1 b2)⟩
def KR (w X:World):Prop:=∀(g:Nat) (cs:Array Value) (fr:Nat×Nat),w.heap[g]? =some (.cells cs 51 fr)→X.heap[g]? =some (.cells cs 51 fr)
theorem KR.refl (w:World):KR w w:=fun _ _ _ h=>h
theorem KR.then {w X Y:World} (h:KR w X) (k:KR X Y):KR w Y:=fun g cs fr hg=>k g cs fr (h g cs fr hg)
theorem KR.of {w X:World} (h:Below w.heap.size w X):KR w X:=fun g cs fr hg=>(h.block g (Array.getElem?_eq_some_iff.1 hg).1).trans hg
theorem KR.bu {w X:World} {b:Nat} (h:Bu b w X) {cs:Array Value} {t:TypeId} {fr:Nat×Nat} (hb:w.heap[b]? =some (.cells cs t fr)) (ht:51≠t):KR w X:=fun g cs fr hg=>h.at hg (yq hg hb ht)
theorem KR.grown {w X:World} {row:Option Nat} (h:w.grownBy X row) (hr:∀k,row=some k→∃cs t fr,w.heap[k]? =some (.cells cs t fr)∧51≠t):KR w X:=fun g cs fr hg=>by
 refine(h.block g (Array.getElem?_eq_some_iff.1 hg).1 (fun e=> ?_)).trans hg
 obtain⟨cs',t,fr',hk,ht⟩:=hr g e.symm
 rw[hg]at hk
 injection hk with hk
 injection hk with _ hk
 exact ht hk
theorem KR.set {w X:World} (h:KR w X) {k:Nat} {cs:Array Value} {t:TypeId} {fr:Nat×Nat} (hk:X.heap[k]? =some (.cells cs t fr)) (ht:51≠t) (i:Nat) (x:Value):KR w (X.setCell ⟨k,i,none⟩ x):=fun g cs' fr' hg=>
 zw (h g cs' fr' hg) (yq (h g cs' fr' hg) hk ht) x
theorem vK {w X:World} (h:KR w X) {a:Option Addr} {len cap:Nat} {l:List (Int×Int)} (hr:Rs w a len cap l) (hy:Ty w a):Rs X a len cap l∧Ty X a:=by
 have key:∀g off,a=some ⟨g,off,none⟩→X.heap[g]? =w.heap[g]? :=fun g off e=>by
  obtain⟨cs,fr,hk⟩:=hy g off e
  rw[hk]
  exact h g cs fr hk
 exact⟨rs_kept hr key,ty_kept hy key⟩
def PtC (PV:Value→PT→Prop):List PT→List Value→Prop
 | [],cs=>cs=[]
 |p::ps,cs=>∃c0 c1 c2 c3 c4 cs',cs=c0::c1::c2::c3::c4::cs'∧PV (.agg #[c0,c1,c2,c3,c4]) p∧PtC PV ps cs'
theorem PtC.mono {P Q:Value→PT→Prop} (h:∀v p,P v p→Q v p):∀(ps:List PT) (cs:List Value),PtC P ps cs→PtC Q ps cs:=by
 intro ps
 induction ps with
 |nil=>intro cs hc;exact hc
 |cons x ps ih=>
  intro cs hc
  obtain⟨c0,c1,c2,c3,c4,cs',e,hv,hr⟩:=hc
  exact⟨c0,c1,c2,c3,c4,cs',e,h _ _ hv,ih _ hr⟩
theorem PtC.snoc {P:Value→PT→Prop} {p:PT} {c0 c1 c2 c3 c4:Value} (hv:P (.agg #[c0,c1,c2,c3,c4]) p):∀(ps:List PT) (cs:List Value),PtC P ps cs→PtC P (ps++[p]) (cs++[c0,c1,c2,c3,c4]):=by
 intro ps
 induction ps with
 |nil=>
  intro cs hc
  have:cs=[]:=hc
  subst this
  exact⟨c0,c1,c2,c3,c4,[],rfl,hv,rfl⟩
 |cons x ps ih=>
  intro cs hc
  obtain⟨d0,d1,d2,d3,d4,cs',e,hv',hr⟩:=hc
  exact⟨d0,d1,d2,d3,d4,cs'++[c0,c1,c2,c3,c4],by rw[e];rfl,hv',ih _ hr⟩
def Row5 (D:Nat→Prop) (w:World) (a:Option Addr) (len cap:Nat) (cs:List Value):Prop:=
 len≤cap∧cap≤maxLen∧∀(j:Nat) (u:Value),cs[j]? =some u→∃g off,a=some ⟨g,off,none⟩∧D g∧w.cell? ⟨g,off+j,none⟩=some u
theorem Row5.kept {D D':Nat→Prop} {w X:World} (k:∀g,D g→D' g∧X.heap[g]? =w.heap[g]?) {a:Option Addr} {len cap:Nat} {cs:List Value} (h:Row5 D w a len cap cs):Row5 D' X a len cap cs:=by
 obtain⟨h1,h2,h3⟩:=h
 refine⟨h1,h2,fun j u hu=> ?_⟩
 obtain⟨g,off,ha,hd,hc⟩:=h3 j u hu
 exact⟨g,off,ha,(k g hd).1,by rw[World.cell?_of_block (k g hd).2];exact hc⟩
def PartV (D:Nat→Prop):Nat→World→Value→PT→Prop
 |0,_,_,_=>False
 |n+1,w,v,p=>∃k t R L q aR cR aL cL cs,p=mk k t R L q∧v= .agg #[.int .i64 k,.string (strOfNums t),.slice aR R.length cR,.slice aL L.length cL,.int .i64 q]∧yQ k∧U.zv t∧yQ q∧Rs w aR R.length cR R∧Ty w aR∧Row5 D w aL L.length cL cs∧PtC (PartV D n w) L cs
theorem PartV.kept {D D':Nat→Prop} {w X:World} (k:∀g,D g→D' g∧X.heap[g]? =w.heap[g]?) (kr:KR w X):∀(n:Nat) (v:Value) (p:PT),PartV D n w v p→PartV D' n X v p:=by
 intro n
 induction n with
 |zero=>intro v p h;exact h
 |succ n ih=>
  intro v p h
  obtain⟨kk,t,R,L,q,aR,cR,aL,cL,cs,e1,e2,f1,f2,f3,hr,hy,h5,hc⟩:=h
  obtain⟨hr',hy'⟩:=vK kr hr hy
  exact⟨kk,t,R,L,q,aR,cR,aL,cL,cs,e1,e2,f1,f2,f3,hr',hy',h5.kept k,PtC.mono ih _ _ hc⟩
theorem PartV.up {D:Nat→Prop} {w:World}:∀(n m:Nat),n≤m→∀(v:Value) (p:PT),PartV D n w v p→PartV D m w v p:=by
 intro n
 induction n with
 |zero=>intro m _ v p h;exact h.elim
 |succ n ih=>
  intro m hm v p h
  cases m with
  |zero=>omega
  |succ m=>
   obtain⟨kk,t,R,L,q,aR,cR,aL,cL,cs,e1,e2,f1,f2,f3,hr,hy,h5,hc⟩:=h
   exact⟨kk,t,R,L,q,aR,cR,aL,cL,cs,e1,e2,f1,f2,f3,hr,hy,h5,PtC.mono (ih m (by omega)) _ _ hc⟩
def PartE (D:Nat→Prop) (w:World) (v:Value) (p:PT):Prop:=∃n,PartV D n w v p
theorem PartE.kept {D D':Nat→Prop} {w X:World} {v:Value} {p:PT} (h:PartE D w v p) (k:∀g,D g→D' g∧X.heap[g]? =w.heap[g]?) (kr:KR w X):PartE D' X v p:=by
 obtain⟨n,h⟩:=h
 exact⟨n,PartV.kept k kr n v p h⟩
theorem PartE.form {D:Nat→Prop} {w:World} {v:Value} {p:PT} (h:PartE D w v p):∃k S a n c a' n' c' q,v= .agg #[.int .i64 k,.string S,.slice a n c,.slice a' n' c',.int .i64 q]∧q=atP p:=by
 obtain⟨n,h⟩:=h
 cases n with
 |zero=>exact h.elim
 |succ n=>
  obtain⟨kk,t,R,L,q,aR,cR,aL,cL,cs,rfl,e2,-⟩:=h
  exact⟨_,_,_,_,_,_,_,_,_,e2,rfl⟩
def PartsE (D:Nat→Prop) (w:World) (a:Option Addr) (len cap:Nat) (L:List PT):Prop:=∃n cs,L.length=len∧Row5 D w a len cap cs∧PtC (PartV D n w) L cs
theorem PtC.all {D:Nat→Prop} {w:World}:∀(ps:List PT) (cs:List Value),PtC (PartE D w) ps cs→∃n,PtC (PartV D n w) ps cs:=by
 intro ps
 induction ps with
 |nil=>intro cs hc;exact⟨0,hc⟩
 |cons x ps ih=>
  intro cs hc
  obtain⟨c0,c1,c2,c3,c4,cs',e,⟨n,hv⟩,hr⟩:=hc
  obtain⟨m,hm⟩:=ih _ hr
  exact⟨max n m,c0,c1,c2,c3,c4,cs',e,PartV.up n _ (by omega) _ _ hv,PtC.mono (PartV.up m _ (by omega)) _ _ hm⟩
theorem PartE.leaf (D:Nat→Prop) (w:World) (k:Int) (t:List Int) (R:List (Int×Int)) (q:Int) (a:Option Addr) (c:Nat) (hk:yQ k) (ht:U.zv t) (hq:yQ q) (hr:Rs w a R.length c R) (hy:Ty w a):
  PartE D w (.agg #[.int .i64 k,.string (strOfNums t),.slice a R.length c,.slice none 0 0,.int .i64 q]) (mk k t R [] q):=
 ⟨1,k,t,R,[],q,a,c,none,0,[],rfl,rfl,hk,ht,hq,hr,hy,⟨Nat.le_refl _,Nat.zero_le _,fun j u hu=>by simp at hu⟩,rfl⟩
theorem PartE.node {D:Nat→Prop} {w:World} (k q:Int) (hk:yQ k) (hq:yQ q) {a:Option Addr} {len cap:Nat} {L:List PT} (h:PartsE D w a len cap L):
  PartE D w (.agg #[.int .i64 k,.string ⟨#[]⟩,.slice none 0 0,.slice a len cap,.int .i64 q]) (mk k [] [] L q):=by
 obtain⟨n,cs,rfl,h5,hc⟩:=h
 exact⟨n+1,k,[],[],L,q,none,0,a,cap,cs,rfl,rfl,hk,(fun z hz=>by cases hz),hq,Rs.nil w,Ty.nil w,h5,hc⟩
theorem yW {W:World} {g:Nat} {x0 x1 x2 x3 x4:Value} {t:TypeId} (h:W.heap[g]? =some (.cells #[x0,x1,x2,x3,x4] t)):
  (W.cell? ⟨g,0,none⟩=some x0∧W.cell? ⟨g,1,none⟩=some x1∧W.cell? ⟨g,2,none⟩=some x2∧W.cell? ⟨g,3,none⟩=some x3∧W.cell? ⟨g,4,none⟩=some x4)∧
  (W.frozen? ⟨g,0,none⟩=false∧W.frozen? ⟨g,1,none⟩=false∧W.frozen? ⟨g,2,none⟩=false∧W.frozen? ⟨g,3,none⟩=false∧W.frozen? ⟨g,4,none⟩=false):=by
 refine⟨⟨?_,?_,?_,?_,?_⟩,?_,?_,?_,?_,?_⟩<;>simp[World.cell?,World.frozen?,h]
theorem Zj {W:World} {g:Nat} {y0 y1 y2 y3 y4:Value} {t:TypeId} (h:W.heap[g]? =some (.cells #[y0,y1,y2,y3,y4] t)) (x0 x1 x2 x3 x4:Value):
  (((((W.setCell ⟨g,0,none⟩ x0).setCell ⟨g,1,none⟩ x1).setCell ⟨g,2,none⟩ x2).setCell ⟨g,3,none⟩ x3).setCell ⟨g,4,none⟩ x4).heap[g]? =some (.cells #[x0,x1,x2,x3,x4] t):=by
 have h0:=heap_setCell_same W g 0 _ t x0 h
 have h1:=heap_setCell_same _ g 1 _ t x1 h0
 have h2:=heap_setCell_same _ g 2 _ t x2 h1
 have h3:=heap_setCell_same _ g 3 _ t x3 h2
 have h4:=heap_setCell_same _ g 4 _ t x4 h3
 simpa using h4
theorem xQ {W:World} {g k:Nat} (hn:k≠g) (x0 x1 x2 x3 x4:Value):
  (((((W.setCell ⟨g,0,none⟩ x0).setCell ⟨g,1,none⟩ x1).setCell ⟨g,2,none⟩ x2).setCell ⟨g,3,none⟩ x3).setCell ⟨g,4,none⟩ x4).heap[k]? =W.heap[k]? :=by
 simp only[Below.heap_setCell _ _ _ k (show k≠(⟨g,_,none⟩:Addr).block from hn)]
theorem set5 {B:Nat} {a w:World} (h:Below B a w) {g:Nat} (hg:B≤g) (x0 x1 x2 x3 x4:Value):Below B a (((((w.setCell ⟨g,0,none⟩ x0).setCell ⟨g,1,none⟩ x1).setCell ⟨g,2,none⟩ x2).setCell ⟨g,3,none⟩ x3).setCell ⟨g,4,none⟩ x4):=
 Below.setCell (Below.setCell (Below.setCell (Below.setCell (Below.setCell h (show B≤(⟨g,0,none⟩:Addr).block from hg) _) (show B≤(⟨g,1,none⟩:Addr).block from hg) _) (show B≤(⟨g,2,none⟩:Addr).block from hg) _) (show B≤(⟨g,3,none⟩:Addr).block from hg) _) (show B≤(⟨g,4,none⟩:Addr).block from hg) _
theorem jv {fn:Func} {p:Tmp} (h:fn.results= #[.cell p 149]) {tmps:Array Value} {g:Nat} (hp:tmps.getD p undef= .pointer (some ⟨g,0,none⟩)) {X:World} {x0 x1 x2 x3 x4:Value} (hX:X.heap[g]? =some (.cells #[x0,x1,x2,x3,x4] 149)):
  (results fn tmps).run Tryz.prog X= .ok (.agg #[x0,x1,x2,x3,x4]) X:=by
 obtain⟨k0,k1,k2,k3,k4⟩:=(yW hX).1
 have hp2:tmps[p]?.getD undef= .pointer (some ⟨g,0,none⟩):=by rw[←hp];simp[Array.getD_eq_getD_getElem?]
 simp only[results,h]
 simp[hp2,go_sem,k0,k1,k2,k3,k4]
def New (w w':World):Nat→Prop:=fun g=>w.heap.size≤g∧g<w'.heap.size
theorem vk {q:Nat} (h:q≤1000000):yQ (q:Int):=by unfold yQ;omega
theorem theOne_l (k q:Int) (hk:yQ k) (hq:yQ q) (D:Nat→Prop) (a:Option Addr) (len cap:Nat) (L:List PT) (w:World) (hD:∀g,D g→g<w.heap.size) (h:PartsE D w a len cap L):
  Calls Tryz.prog 198 #[.int .i64 k,.slice a len cap,.int .i64 q] w fun e w'=>∃v,e= .returned v∧PartE D w' v (R.ZV k L q)∧Below w.heap.size w w':=by
 have KEEP:∀o,∀g,D g→D g∧(w.alloc o).heap[g]? =w.heap[g]? :=fun o g hg=>⟨hg,(Below.new1 o).block g (hD g hg)⟩
 obtain⟨n,cs,hl,h5,hc⟩:=h
 by_cases h1:len=1
 ·subst h1
  obtain⟨p,rfl⟩:∃x,L=[x]:=List.length_eq_one_iff.1 hl
  obtain⟨c0,c1,c2,c3,c4,cs',rfl,hv,-⟩:=hc
  obtain⟨l1,l2,h5⟩:=h5
  obtain⟨g,off,rfl,dg,k0⟩:=h5 0 c0 rfl
  have key:∀j u,(c0::c1::c2::c3::c4::cs')[j]? =some u→w.cell? ⟨g,off+j,none⟩=some u:=fun j u hu=>by
   obtain⟨g',off',e,-,hc⟩:=h5 j u hu
   injection e with e
   injection e with e1 e2
   subst e1;subst e2
   exact hc
  have HB:∀o,Below w.heap.size w (w.alloc o):=fun o=>Below.new1 o
  have hg:=hD g dg
  rw[Nat.add_zero]at k0
  have q0:∀o,(w.alloc o).cell? ⟨g,off,none⟩=some c0:=fun o=>((HB o).cell hg).trans k0
  have q1:∀o,(w.alloc o).cell? ⟨g,off+1,none⟩=some c1:=fun o=>((HB o).cell hg).trans (key 1 c1 rfl)
  have q2:∀o,(w.alloc o).cell? ⟨g,off+2,none⟩=some c2:=fun o=>((HB o).cell hg).trans (key 2 c2 rfl)
  have q3:∀o,(w.alloc o).cell? ⟨g,off+3,none⟩=some c3:=fun o=>((HB o).cell hg).trans (key 3 c3 rfl)
  have q4:∀o,(w.alloc o).cell? ⟨g,off+4,none⟩=some c4:=fun o=>((HB o).cell hg).trans (key 4 c4 rfl)
  have HV:=zk (fun o=>PartE.kept (D':=D) ⟨n,hv⟩ (KEEP o) (KR.of (HB o)))
  have fm:=PartE.form (D:=D) (w:=w) ⟨n,hv⟩
  obtain⟨x1,x2,x3,x4,x5,x6,x7,x8,x9,ev,-⟩:=fm
  simp only[Value.agg.injEq,Array.mk.injEq,List.cons.injEq,and_true]at ev
  obtain⟨rfl,rfl,rfl,rfl,rfl⟩:=ev
  unfold maxLen at l2
  clear key k0 h5 hv KEEP HB
  go_enter Tryz.func198,Tryz.ntmps198
  go_wp2_with fail
  (try simp only[Exit.inBlock,Exit.then])
  refine bodyPost_ret (v:= .agg #[.int .i64 x1,.string x2,.slice x3 x4 x5,.slice x6 x7 x8,.int .i64 x9]) ?_ rfl ⟨_,rfl,zq HV _,Below.new1 _⟩
  exact jv rfl rfl (heap_alloc_new _ _)
 ·have e:R.ZV k L q=mk k [] [] L q:=by
   unfold R.ZV
   split
   ·simp at hl;omega
   ·rfl
  have t1:((len:Int)==1)=false:=beq_eq_false_iff_ne.2 (by omega)
  rw[e]
  have HV:=zk (fun o=>PartE.node k q hk hq (w:=w.alloc o) (D:=D) ⟨n,cs,hl,h5.kept (KEEP o),PtC.mono (PartV.kept (KEEP o) (KR.of (Below.new1 o)) n) _ _ hc⟩)
  clear h5 hc KEEP e
  go_enter Tryz.func198,Tryz.ntmps198
  go_wp2_with fail
  (try simp only[Exit.inBlock,Exit.then])
  refine bodyPost_ret (v:= .agg #[.int .i64 k,.string ⟨#[]⟩,.slice none 0 0,.slice a len cap,.int .i64 q]) ?_ rfl ⟨_,rfl,zq HV _,Below.new1 _⟩
  exact jv rfl rfl (heap_alloc_new _ _)
theorem call_l (w:World) (b G:Nat) (r:List TN) (m:Nat) (d:Int) (h:Rd w b G r m d) (hr:Ends r) (hk:kd r≠-1):
  Calls Tryz.prog 143 #[.pointer (some ⟨b,0,none⟩)] w fun e w'=>∃v,e= .returned v∧PartE (New w w') w' v (mk 0 (tx r) [] [] (pl r:Nat))∧Rd w' b G r.tail m d∧Bu b w w':=by
 have CT:=zk (fun W (bW:Below w.heap.size w W)=>Zz W b G r m d (h.later bW) hr.ne (hr.tail hk).ne)
 have hbl:=h.lt
 have hGl:=h.ltG
 have HX:=zk hr.bytes
 have HQ:=zk (vk hr.pl)
 have HB:∀o,Below w.heap.size w (w.alloc o):=fun o=>Below.new1 o
 clear h hr hk
 go_enter Tryz.func143,Tryz.ntmps143
 go_wp2_with fail
 refine(zq CT _ (HB _)).mono ?_
 rintro e w1 ⟨v,rfl,⟨a1,c1,rfl,hrs,hys⟩,hr2,bu⟩
 clear CT
 have HRS:=zk (And.intro hrs hys)
 have G1:=bu.at (heap_alloc_new w _) (show w.heap.size≠b by omega)
 have hs1:w.heap.size<w1.heap.size:=(Array.getElem?_eq_some_iff.1 G1).1
 obtain⟨⟨y0,y1,y2,y3,y4⟩,z0,z1,z2,z3,z4⟩:=yW G1
 clear hrs hys
 go_wp2_with fail
 (try simp only[Exit.inBlock,Exit.then])
 have BX:=(Bu.of (b:=b) (HB (.cells #[.int .i64 0,.string ⟨#[]⟩,.slice none 0 0,.slice none 0 0,.int .i64 0] 149))).then bu
 have KX:KR w1 ((((((w1.setCell ⟨w.heap.size,0,none⟩ (.int .i64 0)).setCell ⟨w.heap.size,1,none⟩ (.string (strOfNums (tx r)))).setCell ⟨w.heap.size,2,none⟩ (.slice none 0 0)).setCell ⟨w.heap.size,3,none⟩ (.slice none 0 0)).setCell ⟨w.heap.size,4,none⟩ (.int .i64 (pl r:Nat))).alloc (.cells #[.int .i64 (kd r),.string (strOfNums (tx r)),.slice a1 (rg r).length c1,.int .i64 (pl r:Nat)] 135)):=fun g' cs fr hk=>by
  have n2:=yq hk G1 (by decide)
  exact zK (zw (zw (zw (zw (zw hk n2 _) n2 _) n2 _) n2 _) n2 _) _
 refine bodyPost_ret (v:= .agg #[.int .i64 0,.string (strOfNums (tx r)),.slice none 0 0,.slice none 0 0,.int .i64 (pl r:Nat)]) ?_ rfl ⟨_,rfl,?_,?_,?_⟩
 ·exact jv rfl rfl (zK (Zj G1 _ _ _ _ _) _)
 ·exact PartE.leaf _ _ 0 (tx r) [] (pl r:Nat) none 0 (by unfold yQ;omega) (zq HX) (zq HQ) (Rs.nil _) (Ty.nil _)
 ·have nb:b≠w.heap.size:=by omega
  have nG:G≠w.heap.size:=by omega
  refine hr2.kept ?_ ?_ KX
  ·rw[(Below.new1 _).block b (by simp;have:=hr2.lt;omega)];exact xQ nb _ _ _ _ _
  ·rw[(Below.new1 _).block G (by simp;have:=hr2.ltG;omega)];exact xQ nG _ _ _ _ _
 ·exact(((((BX.setTop (Nat.le_refl _) _ _).setTop (Nat.le_refl _) _ _).setTop (Nat.le_refl _) _ _).setTop (Nat.le_refl _) _ _).setTop (Nat.le_refl _) _ _).alloc _
theorem text_l (w:World) (b G:Nat) (r:List TN) (m:Nat) (d:Int) (h:Rd w b G r m d) (hr:Ends r) (hk:kd r≠-1):
  Calls Tryz.prog 144 #[.pointer (some ⟨b,0,none⟩)] w fun e w'=>∃v,e= .returned v∧PartE (New w w') w' v (mk 1 (tx r) [] [] (pl r:Nat))∧Rd w' b G r.tail m d∧Bu b w w':=by
 have CT:=zk (fun W (bW:Below w.heap.size w W)=>Zz W b G r m d (h.later bW) hr.ne (hr.tail hk).ne)
 have hbl:=h.lt
 have hGl:=h.ltG
 have HX:=zk hr.bytes
 have HQ:=zk (vk hr.pl)
 have HB:∀o,Below w.heap.size w (w.alloc o):=fun o=>Below.new1 o
 clear h hr hk
 go_enter Tryz.func144,Tryz.ntmps144
 go_wp2_with fail
 refine(zq CT _ (HB _)).mono ?_
 rintro e w1 ⟨v,rfl,⟨a1,c1,rfl,hrs,hys⟩,hr2,bu⟩
 clear CT
 have HRS:=zk (And.intro hrs hys)
 have G1:=bu.at (heap_alloc_new w _) (show w.heap.size≠b by omega)
 have hs1:w.heap.size<w1.heap.size:=(Array.getElem?_eq_some_iff.1 G1).1
 obtain⟨⟨y0,y1,y2,y3,y4⟩,z0,z1,z2,z3,z4⟩:=yW G1
 clear hrs hys
 go_wp2_with fail
 (try simp only[Exit.inBlock,Exit.then])
 have BX:=(Bu.of (b:=b) (HB (.cells #[.int .i64 0,.string ⟨#[]⟩,.slice none 0 0,.slice none 0 0,.int .i64 0] 149))).then bu
 have KX:KR w1 ((((((w1.setCell ⟨w.heap.size,0,none⟩ (.int .i64 1)).setCell ⟨w.heap.size,1,none⟩ (.string (strOfNums (tx r)))).setCell ⟨w.heap.size,2,none⟩ (.slice none 0 0)).setCell ⟨w.heap.size,3,none⟩ (.slice none 0 0)).setCell ⟨w.heap.size,4,none⟩ (.int .i64 (pl r:Nat))).alloc (.cells #[.int .i64 (kd r),.string (strOfNums (tx r)),.slice a1 (rg r).length c1,.int .i64 (pl r:Nat)] 135)):=fun g' cs fr hk=>by
  have n2:=yq hk G1 (by decide)
  exact zK (zw (zw (zw (zw (zw hk n2 _) n2 _) n2 _) n2 _) n2 _) _
 refine bodyPost_ret (v:= .agg #[.int .i64 1,.string (strOfNums (tx r)),.slice none 0 0,.slice none 0 0,.int .i64 (pl r:Nat)]) ?_ rfl ⟨_,rfl,?_,?_,?_⟩
 ·exact jv rfl rfl (zK (Zj G1 _ _ _ _ _) _)
 ·exact PartE.leaf _ _ 1 (tx r) [] (pl r:Nat) none 0 (by unfold yQ;omega) (zq HX) (zq HQ) (Rs.nil _) (Ty.nil _)
 ·have nb:b≠w.heap.size:=by omega
  have nG:G≠w.heap.size:=by omega
  refine hr2.kept ?_ ?_ KX
  ·rw[(Below.new1 _).block b (by simp;have:=hr2.lt;omega)];exact xQ nb _ _ _ _ _
  ·rw[(Below.new1 _).block G (by simp;have:=hr2.ltG;omega)];exact xQ nG _ _ _ _ _
 ·exact(((((BX.setTop (Nat.le_refl _) _ _).setTop (Nat.le_refl _) _ _).setTop (Nat.le_refl _) _ _).setTop (Nat.le_refl _) _ _).setTop (Nat.le_refl _) _ _).alloc _
theorem set_l (w:World) (b G:Nat) (r:List TN) (m:Nat) (d:Int) (h:Rd w b G r m d) (hr:Ends r) (hk:kd r≠-1):
  Calls Tryz.prog 145 #[.pointer (some ⟨b,0,none⟩)] w fun e w'=>∃v,e= .returned v∧PartE (New w w') w' v (mk 2 [] (rg r) [] (pl r:Nat))∧Rd w' b G r.tail m d∧Bu b w w':=by
 have CT:=zk (fun W (bW:Below w.heap.size w W)=>Zz W b G r m d (h.later bW) hr.ne (hr.tail hk).ne)
 have hbl:=h.lt
 have hGl:=h.ltG
 have HX:=zk hr.bytes
 have HQ:=zk (vk hr.pl)
 have HB:∀o,Below w.heap.size w (w.alloc o):=fun o=>Below.new1 o
 clear h hr hk
 go_enter Tryz.func145,Tryz.ntmps145
 go_wp2_with fail
 refine(zq CT _ (HB _)).mono ?_
 rintro e w1 ⟨v,rfl,⟨a1,c1,rfl,hrs,hys⟩,hr2,bu⟩
 clear CT
 have HRS:=zk (And.intro hrs hys)
 have G1:=bu.at (heap_alloc_new w _) (show w.heap.size≠b by omega)
 have hs1:w.heap.size<w1.heap.size:=(Array.getElem?_eq_some_iff.1 G1).1
 obtain⟨⟨y0,y1,y2,y3,y4⟩,z0,z1,z2,z3,z4⟩:=yW G1
 clear hrs hys
 go_wp2_with fail
 (try simp only[Exit.inBlock,Exit.then])
 have BX:=(Bu.of (b:=b) (HB (.cells #[.int .i64 0,.string ⟨#[]⟩,.slice none 0 0,.slice none 0 0,.int .i64 0] 149))).then bu
 have KX:KR w1 ((((((w1.setCell ⟨w.heap.size,0,none⟩ (.int .i64 2)).setCell ⟨w.heap.size,1,none⟩ (.string ⟨#[]⟩)).setCell ⟨w.heap.size,2,none⟩ (.slice a1 (rg r).length c1)).setCell ⟨w.heap.size,3,none⟩ (.slice none 0 0)).setCell ⟨w.heap.size,4,none⟩ (.int .i64 (pl r:Nat))).alloc (.cells #[.int .i64 (kd r),.string (strOfNums (tx r)),.slice a1 (rg r).length c1,.int .i64 (pl r:Nat)] 135)):=fun g' cs fr hk=>by
  have n2:=yq hk G1 (by decide)
  exact zK (zw (zw (zw (zw (zw hk n2 _) n2 _) n2 _) n2 _) n2 _) _
 refine bodyPost_ret (v:= .agg #[.int .i64 2,.string ⟨#[]⟩,.slice a1 (rg r).length c1,.slice none 0 0,.int .i64 (pl r:Nat)]) ?_ rfl ⟨_,rfl,?_,?_,?_⟩
 ·exact jv rfl rfl (zK (Zj G1 _ _ _ _ _) _)
 ·exact PartE.leaf _ _ 2 [] (rg r) (pl r:Nat) a1 c1 (by unfold yQ;omega) (fun z hz=>by cases hz) (zq HQ) (vK KX (zq HRS).1 (zq HRS).2).1 (vK KX (zq HRS).1 (zq HRS).2).2
 ·have nb:b≠w.heap.size:=by omega
  have nG:G≠w.heap.size:=by omega
  refine hr2.kept ?_ ?_ KX
  ·rw[(Below.new1 _).block b (by simp;have:=hr2.lt;omega)];exact xQ nb _ _ _ _ _
  ·rw[(Below.new1 _).block G (by simp;have:=hr2.ltG;omega)];exact xQ nG _ _ _ _ _
 ·exact(((((BX.setTop (Nat.le_refl _) _ _).setTop (Nat.le_refl _) _ _).setTop (Nat.le_refl _) _ _).setTop (Nat.le_refl _) _ _).setTop (Nat.le_refl _) _ _).alloc _
theorem octets_l (w:World) (b G:Nat) (r:List TN) (m:Nat) (d:Int) (h:Rd w b G r m d) (hr:Ends r) (hk:kd r≠-1):
  Calls Tryz.prog 146 #[.pointer (some ⟨b,0,none⟩)] w fun e w'=>∃v,e= .returned v∧PartE (New w w') w' v (mk 3 [] (rg r) [] (pl r:Nat))∧Rd w' b G r.tail m d∧Bu b w w':=by
 have CT:=zk (fun W (bW:Below w.heap.size w W)=>Zz W b G r m d (h.later bW) hr.ne (hr.tail hk).ne)
 have hbl:=h.lt
 have hGl:=h.ltG
 have HX:=zk hr.bytes
 have HQ:=zk (vk hr.pl)
 have HB:∀o,Below w.heap.size w (w.alloc o):=fun o=>Below.new1 o
 clear h hr hk
 go_enter Tryz.func146,Tryz.ntmps146
 go_wp2_with fail
 refine(zq CT _ (HB _)).mono ?_
 rintro e w1 ⟨v,rfl,⟨a1,c1,rfl,hrs,hys⟩,hr2,bu⟩
 clear CT
 have HRS:=zk (And.intro hrs hys)
 have G1:=bu.at (heap_alloc_new w _) (show w.heap.size≠b by omega)
 have hs1:w.heap.size<w1.heap.size:=(Array.getElem?_eq_some_iff.1 G1).1
 obtain⟨⟨y0,y1,y2,y3,y4⟩,z0,z1,z2,z3,z4⟩:=yW G1
 clear hrs hys
 go_wp2_with fail
 (try simp only[Exit.inBlock,Exit.then])
 have BX:=(Bu.of (b:=b) (HB (.cells #[.int .i64 0,.string ⟨#[]⟩,.slice none 0 0,.slice none 0 0,.int .i64 0] 149))).then bu
 have KX:KR w1 ((((((w1.setCell ⟨w.heap.size,0,none⟩ (.int .i64 3)).setCell ⟨w.heap.size,1,none⟩ (.string ⟨#[]⟩)).setCell ⟨w.heap.size,2,none⟩ (.slice a1 (rg r).length c1)).setCell ⟨w.heap.size,3,none⟩ (.slice none 0 0)).setCell ⟨w.heap.size,4,none⟩ (.int .i64 (pl r:Nat))).alloc (.cells #[.int .i64 (kd r),.string (strOfNums (tx r)),.slice a1 (rg r).length c1,.int .i64 (pl r:Nat)] 135)):=fun g' cs fr hk=>by
  have n2:=yq hk G1 (by decide)
  exact zK (zw (zw (zw (zw (zw hk n2 _) n2 _) n2 _) n2 _) n2 _) _
 refine bodyPost_ret (v:= .agg #[.int .i64 3,.string ⟨#[]⟩,.slice a1 (rg r).length c1,.slice none 0 0,.int .i64 (pl r:Nat)]) ?_ rfl ⟨_,rfl,?_,?_,?_⟩
 ·exact jv rfl rfl (zK (Zj G1 _ _ _ _ _) _)
 ·exact PartE.leaf _ _ 3 [] (rg r) (pl r:Nat) a1 c1 (by unfold yQ;omega) (fun z hz=>by cases hz) (zq HQ) (vK KX (zq HRS).1 (zq HRS).2).1 (vK KX (zq HRS).1 (zq HRS).2).2
 ·have nb:b≠w.heap.size:=by omega
  have nG:G≠w.heap.size:=by omega
  refine hr2.kept ?_ ?_ KX
  ·rw[(Below.new1 _).block b (by simp;have:=hr2.lt;omega)];exact xQ nb _ _ _ _ _
  ·rw[(Below.new1 _).block G (by simp;have:=hr2.ltG;omega)];exact xQ nG _ _ _ _ _
 ·exact(((((BX.setTop (Nat.le_refl _) _ _).setTop (Nat.le_refl _) _ _).setTop (Nat.le_refl _) _ _).setTop (Nat.le_refl _) _ _).setTop (Nat.le_refl _) _ _).alloc _
def okK (x:List Int):Int×Bool:=if x=[42]then (6,true)else if x=[43]then (7,true)else if x=[63]then (8,true)else (0,false)
theorem str_const {x:List Int} (hx:U.zv x) (c:Nat) (hc:c≤255):(strOfNums x).toList=[UInt8.ofNat c]↔x=[(c:Int)]:=by
 have:=st_list (St.of hx) [(c:Int)] (ye (by omega) (by omega) (fun z hz=>by cases hz))
 simpa using this
theorem oftenKind_l (k:Int) (x:List Int) (hx:U.zv x) (w:World):
  Calls Tryz.prog 242 #[.agg #[.int .i64 k,.string (strOfNums x)]] w fun e w'=>e= .returned (.tuple #[.int .i64 (okK x).1,.bool (okK x).2])∧Below w.heap.size w w':=by
 have s1:=str_const hx 42 (by omega)
 have s2:=str_const hx 43 (by omega)
 have s3:=str_const hx 63 (by omega)
 unfold okK
 by_cases h1:x=[42]
 ·have p1:=s1.2 h1
  rw[if_pos h1]
  clear s1 s2 s3 h1 hx
  generalize strOfNums x=S at*
  go_enter Tryz.func242,Tryz.ntmps242
  go_wp2_with fail
  (try simp only[Exit.inBlock,Exit.then])
  refine bodyPost_ret (v:= .tuple #[.int .i64 6,.bool true]) ?_ rfl ⟨rfl,Below.new1 _⟩
  simp[results,Tryz.results242]
 ·have p1:((strOfNums x).toList==[42])=false:=beq_eq_false_iff_ne.2 fun e=>h1 (s1.1 e)
  rw[if_neg h1]
  by_cases h2:x=[43]
  ·have p2:=s2.2 h2
   rw[if_pos h2]
   clear s1 s2 s3 h1 h2 hx
   generalize strOfNums x=S at*
   go_enter Tryz.func242,Tryz.ntmps242
   go_wp2_with fail
   (try simp only[Exit.inBlock,Exit.then])
   refine bodyPost_ret (v:= .tuple #[.int .i64 7,.bool true]) ?_ rfl ⟨rfl,Below.new1 _⟩
   simp[results,Tryz.results242]
  ·have p2:((strOfNums x).toList==[43])=false:=beq_eq_false_iff_ne.2 fun e=>h2 (s2.1 e)
   rw[if_neg h2]
   by_cases h3:x=[63]
   ·have p3:=s3.2 h3
    rw[if_pos h3]
    clear s1 s2 s3 h1 h2 h3 hx
    generalize strOfNums x=S at*
    go_enter Tryz.func242,Tryz.ntmps242
    go_wp2_with fail
    (try simp only[Exit.inBlock,Exit.then])
    refine bodyPost_ret (v:= .tuple #[.int .i64 8,.bool true]) ?_ rfl ⟨rfl,Below.new1 _⟩
    simp[results,Tryz.results242]
   ·have p3:((strOfNums x).toList==[63])=false:=beq_eq_false_iff_ne.2 fun e=>h3 (s3.1 e)
    rw[if_neg h3]
    clear s1 s2 s3 h1 h2 h3 hx
    generalize strOfNums x=S at*
    go_enter Tryz.func242,Tryz.ntmps242
    go_wp2_with fail
    (try simp only[Exit.inBlock,Exit.then])
    refine bodyPost_ret (v:= .tuple #[.int .i64 0,.bool false]) ?_ rfl ⟨rfl,Below.new1 _⟩
    simp[results,Tryz.results242]
theorem lk_isS (r:List TN) (c:Int):(R.lk r).2=[c]↔isS r c=true:=by
 unfold R.lk isS
 by_cases h:kd r=4
 ·simp[h]
 ·simp[h]
theorem oft_ok (p:PT) (r:List TN):oft p r=if (okK (R.lk r).2).2 then (mk (okK (R.lk r).2).1 [] [] [p] (atP p),r.tail)else (p,r):=by
 unfold oft oftK okK
 simp only[lk_isS]
 by_cases h1:isS r 42=true
 ·simp[h1]
 ·by_cases h2:isS r 43=true
  ·simp[h1,h2]
  ·by_cases h3:isS r 63=true
   ·simp[h1,h2,h3]
   ·simp[h1,h2,h3]
theorem ok_sign {r:List TN} (h:(okK (R.lk r).2).2=true):kd r=4:=by
 unfold okK at h
 simp only[lk_isS]at h
 by_cases h1:isS r 42=true
 ·exact isS_kd h1
 ·by_cases h2:isS r 43=true
  ·exact isS_kd h2
  ·by_cases h3:isS r 63=true
   ·exact isS_kd h3
   ·simp[h1,h2,h3]at h
theorem ok_fits (x:List Int):yQ (okK x).1:=by
 unfold okK yQ
 split
 ·simp
 ·split
  ·simp
  ·split<;>simp
theorem PartE.fitsQ {D:Nat→Prop} {w:World} {v:Value} {p:PT} (h:PartE D w v p):yQ (atP p):=by
 obtain⟨n,h⟩:=h
 cases n with
 |zero=>exact h.elim
 |succ n=>
  obtain⟨kk,t,R,L,q,aR,cR,aL,cL,cs,rfl,-,-,-,f3,-⟩:=h
  exact f3
theorem PartsE.one {D:Nat→Prop} {w:World} {p:PT} {x0 x1 x2 x3 x4:Value} (h:PartE D w (.agg #[x0,x1,x2,x3,x4]) p) {g:Nat} {t:TypeId} {fr:Nat×Nat} (hg:w.heap[g]? =some (.cells #[x0,x1,x2,x3,x4] t fr)) (dg:D g):PartsE D w (some ⟨g,0,none⟩) 1 1 [p]:=by
 obtain⟨n,h⟩:=h
 refine⟨n,[x0,x1,x2,x3,x4],rfl,⟨Nat.le_refl _,by unfold maxLen;omega,fun j u hu=>⟨g,0,rfl,dg,?_⟩⟩,x0,x1,x2,x3,x4,[],rfl,h,rfl⟩
 rw[Nat.zero_add]
 simp only[World.cell?,hg]
 simpa using hu
theorem often_l (w:World) (b G:Nat) (r:List TN) (m:Nat) (d:Int) (h:Rd w b G r m d) (hr:Ends r) (D:Nat→Prop) (hD:∀g,D g→g<w.heap.size∧g≠b) (v:Value) (p:PT) (hp:PartE D w v p):
  Calls Tryz.prog 227 #[.pointer (some ⟨b,0,none⟩),v] w fun e w'=>∃v',e= .returned v'∧PartE (fun g=>D g∨New w w' g) w' v' (oft p r).1∧Rd w' b G (oft p r).2 m d∧Bu b w w':=by
 have hbl:=h.lt
 have hGl:=h.ltG
 have CN:=zk (fun W (bW:Below w.heap.size w W)=>next_l W b G r m d (h.later bW) hr.ne)
 have CL:=zk (fun a n c W=>lookOf_l (kd r) (strOfNums (tx r)) a n c (pl r:Nat) W)
 rw[lk_str]at CL
 have CK:=zk (fun W=>oftenKind_l (kd r) (R.lk r).2 hr.lk W)
 have HRD:=zk h
 have HFQ:=zk hp.fitsQ
 obtain⟨k,S,a,n,c,a',n',c',q,rfl,eq⟩:=hp.form
 have HEQ:=zk eq
 clear eq
 have BA:∀o1 o2,Below w.heap.size w ((w.alloc o1).alloc o2):=fun o1 o2=>(Below.new1 o1).alloc (by simp) o2
 rw[oft_ok]
 have HP:=zk hp
 have HD:=zk hD
 cases hk:(okK (R.lk r).2).2 with
 |false=>
  rw[hk]at CK
  rw[if_neg (by simp)]
  clear hp hD hr h
  go_enter Tryz.func227,Tryz.ntmps227
  go_wp2_with fail
  refine(zq CN _ (BA _ _)).mono ?_
  rintro e w1 ⟨v,rfl,⟨a1,c1,rfl,-,-⟩,b1⟩
  clear CN
  go_wp2_with fail
  refine(zq CL _ _ _ _).mono ?_
  rintro e w2 ⟨rfl,b2⟩
  clear CL
  go_wp2_with fail
  refine(zq CK _).mono ?_
  rintro e w3 ⟨rfl,b3⟩
  clear CK
  have b13:=zY (zY b1 b2) b3
  have BB:=zY (BA _ _) b13
  obtain⟨g1,g2⟩:=two_new b13
  obtain⟨⟨y0,y1,y2,y3,y4⟩,z0,z1,z2,z3,z4⟩:=yW g2
  obtain⟨⟨x0,x1,x2,x3,x4⟩,-⟩:=yW g1
  go_wp2_with fail
  (try simp only[Exit.inBlock,Exit.then])
  refine bodyPost_ret (v:= .agg #[.int .i64 k,.string S,.slice a n c,.slice a' n' c',.int .i64 q]) ?_ rfl ⟨_,rfl,?_,?_,?_⟩
  ·exact jv rfl rfl (Zj g2 _ _ _ _ _)
  ·have B5:=set5 BB (g:=w.heap.size+1) (by omega) (.int .i64 k) (.string S) (.slice a n c) (.slice a' n' c') (.int .i64 q)
   exact(zq HP).kept (fun g hg=>⟨.inl hg,B5.block g (zq HD g hg).1⟩) (KR.of B5)
  ·exact(zq HRD).later (set5 BB (by omega) _ _ _ _ _)
  ·exact Bu.of (set5 BB (by omega) _ _ _ _ _)
 |true=>
  have hk4:=ok_sign hk
  have CT:=zk (fun W (bW:Below w.heap.size w W)=>Zz W b G r m d (h.later bW) hr.ne (hr.tail (by rw[hk4];decide)).ne)
  rw[hk]at CK
  rw[if_pos rfl]
  have HFK:=zk (ok_fits (R.lk r).2)
  generalize (okK (R.lk r).2).1=kk at*
  clear hp hD hr h hk4 hk
  go_enter Tryz.func227,Tryz.ntmps227
  go_wp2_with fail
  refine(zq CN _ (BA _ _)).mono ?_
  rintro e w1 ⟨v,rfl,⟨a1,c1,rfl,-,-⟩,b1⟩
  clear CN
  go_wp2_with fail
  refine(zq CL _ _ _ _).mono ?_
  rintro e w2 ⟨rfl,b2⟩
  clear CL
  go_wp2_with fail
  refine(zq CK _).mono ?_
  rintro e w3 ⟨rfl,b3⟩
  clear CK
  have b13:=zY (zY b1 b2) b3
  have BB:=zY (BA _ _) b13
  go_wp2_with fail
  refine(zq CT _ BB).mono ?_
  rintro e w4 ⟨v,rfl,⟨a2,c2,rfl,-,-⟩,hr2,bu⟩
  clear CT
  obtain⟨g1,g2⟩:=two_new b13
  have G1:=bu.at g1 (show w.heap.size≠b by omega)
  have G2:=bu.at g2 (show w.heap.size+1≠b by omega)
  have hs4:w.heap.size+1<w4.heap.size:=(Array.getElem?_eq_some_iff.1 G2).1
  obtain⟨⟨y0,y1,y2,y3,y4⟩,z0,z1,z2,z3,z4⟩:=yW G2
  obtain⟨⟨x0,x1,x2,x3,x4⟩,-⟩:=yW G1
  clear g1 g2
  have x4':∀o,(w4.alloc o).cell? ⟨w.heap.size,4,none⟩=some (.int .i64 q):=fun o=>((Below.new1 o).cell (zJ x4)).trans x4
  go_wp2_with fail
  (try simp only[Exit.inBlock,Exit.then])
  have X5:=fun(k:Nat) (hk:k≠w.heap.size+1)=>xQ (W:=w4) hk (.int .i64 kk) (.string ⟨#[]⟩) (.slice none 0 0) (.slice (some ⟨w4.heap.size,0,none⟩) 1 1) (.int .i64 q)
  have KX:KR w4 ((((((w4.setCell ⟨w.heap.size+1,0,none⟩ (.int .i64 kk)).setCell ⟨w.heap.size+1,1,none⟩ (.string ⟨#[]⟩)).setCell ⟨w.heap.size+1,2,none⟩ (.slice none 0 0)).setCell ⟨w.heap.size+1,3,none⟩ (.slice (some ⟨w4.heap.size,0,none⟩) 1 1)).setCell ⟨w.heap.size+1,4,none⟩ (.int .i64 q)).alloc (.cells #[.int .i64 k,.string S,.slice a n c,.slice a' n' c',.int .i64 q] 149)):=fun g' cs fr hk=>by
   refine zK ?_ _
   rw[X5 g' (yq hk G2 (by decide))];exact hk
  obtain⟨v0,hrc,-⟩:=zq HRD
  have KA:KR w w4:=(KR.of BB).then (KR.bu bu ((BB.block b hbl).trans hrc) (by decide))
  have sB:=BB.size
  refine bodyPost_ret (v:= .agg #[.int .i64 kk,.string ⟨#[]⟩,.slice none 0 0,.slice (some ⟨w4.heap.size,0,none⟩) 1 1,.int .i64 q]) ?_ rfl ⟨_,rfl,?_,?_,?_⟩
  ·exact jv rfl rfl (zK (Zj G2 _ _ _ _ _) _)
  ·rw[←zq HEQ]
   refine PartE.node kk q (zq HFK) (by rw[zq HEQ];exact zq HFQ) (PartsE.one (x0:= .int .i64 k) (x1:= .string S) (x2:= .slice a n c) (x3:= .slice a' n' c') (x4:= .int .i64 q) ?_ (by have:=heap_alloc_new (((((w4.setCell ⟨w.heap.size+1,0,none⟩ (.int .i64 kk)).setCell ⟨w.heap.size+1,1,none⟩ (.string ⟨#[]⟩)).setCell ⟨w.heap.size+1,2,none⟩ (.slice none 0 0)).setCell ⟨w.heap.size+1,3,none⟩ (.slice (some ⟨w4.heap.size,0,none⟩) 1 1)).setCell ⟨w.heap.size+1,4,none⟩ (.int .i64 q)) (.cells #[.int .i64 k,.string S,.slice a n c,.slice a' n' c',.int .i64 q] 149);simpa using this) (.inr ⟨by omega,by simp⟩))
   refine(zq HP).kept (fun g hg=>⟨.inl hg,?_⟩) (KA.then KX)
   obtain⟨d1,d2⟩:=zq HD g hg
   rw[(Below.new1 _).block g (by simp;omega),X5 g (by omega),bu.block g (by omega) (fun e=>d2 (by injection e)),BB.block g d1]
  ·refine hr2.kept ?_ ?_ KX
   ·rw[(Below.new1 _).block b (by simp;omega)];exact X5 b (by omega)
   ·rw[(Below.new1 _).block G (by simp;omega)];exact X5 G (by omega)
  ·exact((((((Bu.of BB).then bu).setTop (by omega) _ _).setTop (by omega) _ _).setTop (by omega) _ _).setTop (by omega) _ _|>.setTop (by omega) _ _).alloc _
theorem equalLk (k k2:Int) (S S2:ByteArray) (w:World):(Op.equal 146 (.agg #[.int .i64 k,.string S]) (.agg #[.int .i64 k2,.string S2])).run Tryz.prog w= .ok (k==k2&&S.toList==S2.toList) w:=by
 have u3:=Tryz.underlying3
 have a3:=Tryz.isAgg3
 have z3:=Tryz.sizeOf3
 have u9:=Tryz.underlying9
 have a9:=Tryz.isAgg9
 have z9:=Tryz.sizeOf9
 have hS:Tryz.prog.underlying 146=some (.struct (Tryz.prog.fieldsOf 146)):=by kernel_rfl
 have hp:Tryz.prog.stoodInHeld 146=false:=by kernel_rfl
 unfold Op.equal Op.maxDepth
 rw[show(10000:Nat)=9999+1 from rfl,run_equalIn_agg w 9999 146 _ _ hS hp]
 simp only[Program.fieldsOf,Tryz.underlying146]
 go_simp
 by_cases h1:k=k2
 ·by_cases h2:S.toList=S2.toList<;>simp[h1,h2]
 ·simp[h1]
def fnd (k:Int) (x:List Int):List (Int×List Int×Nat)→Nat→Option (Nat×Nat)
 | [],_=>none
 |(k2,x2,f)::es,i=>if (k,x)=(k2,x2)then some (i,f)else fnd k x es (i+1)
def EsC:List MapEntry→List (Int×List Int×Nat)→Prop
 | [],l=>l=[]
 |e::es,l=>∃k x f l',l=(k,x,f)::l'∧U.zv x∧e.key=lookV k x∧e.val= .func (.func f) #[] #[]∧EsC es l'
theorem asking (k:Int) (x:List Int) (hx:U.zv x) (w:World):∀(es:List MapEntry) (l:List (Int×List Int×Nat)) (i:Nat),EsC es l→
  (Instr.findAsking 146 (lookV k x) es i).run Tryz.prog w= .ok ((fnd k x l i).map fun p=>(p.1,.func (.func p.2) #[] #[])) w:=by
 intro es
 induction es with
 |nil=>
  intro l i h
  have:l=[]:=h
  subst this
  rfl
 |cons e es ih=>
  intro l i h
  obtain⟨k2,x2,f,l',rfl,hx2,hk,hv,hr⟩:=h
  unfold Instr.findAsking
  rw[hk]
  unfold lookV
  simp only[Sem.run_bind,equalLk,look_eq hx hx2,Result.andThen,fnd]
  by_cases c:(k,x)=(k2,x2)
  ·simp[c,hv]
  ·rw[decide_eq_false c,if_neg c]
   simp only[Bool.false_eq_true,if_false]
   exact ih l' (i+1) hr
theorem found (k:Int) (x:List Int) (hx:U.zv x) (w:World) (es:List MapEntry) (l:List (Int×List Int×Nat)) (h:EsC es l):
  (Instr.findKey 146 (lookV k x) es).run Tryz.prog w= .ok ((fnd k x l 0).map fun p=>(p.1,.func (.func p.2) #[] #[])) w:=by
 unfold Instr.findKey
 simp only[Sem.run_bind,run_underlying Tryz.underlying146,Result.andThen]
 cases es with
 |nil=>
  have:l=[]:=h
  subst this
  rfl
 |cons e es=>
  have hk:Instr.findNow (.struct (Tryz.prog.fieldsOf 146)) (lookV k x) (e::es) 0=none:=by
   obtain⟨k2,x2,f,l',rfl,hx2,hk,hv,hr⟩:=h
   simp[Instr.findNow,Instr.sameNow,hk,lookV]
  have e0:(TypeDesc.struct (Tryz.prog.fieldsOf 146))=(TypeDesc.struct (Tryz.prog.fieldsOf 146)):=rfl
  have:=asking k x hx w (e::es) l 0 h
  simp[Instr.findNow,Instr.sameNow,lookV]at this⊢
  exact this
theorem ck_look (e:Bool) (k:Int) (S:ByteArray) (W:World):(Instr.checkKey e 10000 146 (.agg #[.int .i64 k,.string S])).run Tryz.prog W= .ok () W:=by kernel_rfl
def Z5 (k:Int) (x:List Int):Option Nat:=
 if (k,x)=(0,[])then some 143 else if (k,x)=(1,[])then some 144 else if (k,x)=(2,[])then some 145
 else if (k,x)=(3,[])then some 146 else if (k,x)=(4,[40])then some 148 else none
def Mq (w:World) (m:Nat):Prop:=∃es clock l,w.heap[m]? =some (.map es clock)∧EsC es.toList l∧∀k x,(fnd k x l 0).map Prod.snd=Z5 k x
theorem Mq.later {w w':World} {m:Nat} (h:Mq w m) (b:Below w.heap.size w w'):Mq w' m:=by
 obtain⟨es,clock,l,h1,h2,h3⟩:=h
 exact⟨es,clock,l,(b.block m (Array.getElem?_eq_some_iff.1 h1).1).trans h1,h2,h3⟩
theorem Mq.bu {w w':World} {b m:Nat} (h:Mq w m) (bu:Bu b w w') {cs:Array Value} {t:TypeId} {fr:Nat×Nat} (hb:w.heap[b]? =some (.cells cs t fr)):Mq w' m:=by
 obtain⟨es,clock,l,h1,h2,h3⟩:=h
 refine⟨es,clock,l,bu.at h1 ?_,h2,h3⟩
 intro e
 subst e
 rw[h1]at hb
 injection hb with hb
 cases hb
theorem Mq.get {w:World} {m:Nat} (h:Mq w m) (k:Int) (x:List Int) (hx:U.zv x):∃es clock,w.heap[m]? =some (.map es clock)∧∀W:World,W.heap[m]? =some (.map es clock)→
  (Instr.lookup 139 (.map (some m)) (.agg #[.int .i64 k,.string (strOfNums x)]) true).run Tryz.prog W= .ok (.tuple #[match Z5 k x with|none=> .nilFunc|some f=> .func (.func f) #[] #[],.bool (Z5 k x).isSome]) W:=by
 obtain⟨es,clock,l,h1,h2,h3⟩:=h
 refine⟨es,clock,h1,fun W hW=> ?_⟩
 have hz:(zeroValue 183).run Tryz.prog W= .ok .nilFunc W:=by kernel_rfl
 have hg:(getObj m).run Tryz.prog W= .ok (.map es clock) W:=by simp[getObj,hW,Sem.run]
 have hf:=found k x hx W es.toList l h2
 unfold lookV at hf
 rw[←h3 k x]
 cases e:fnd k x l 0 with
 |none=>
  rw[e]at hf
  simp[Instr.lookup,run_underlying Tryz.underlying139,hg,ck_look,hf,hz]
 |some p=>
  rw[e]at hf
  simp[Instr.lookup,run_underlying Tryz.underlying139,hg,ck_look,hf]
theorem atom_fn {grp:List TN→Res PT} {r:List TN}:(Z5 (R.lk r).1 (R.lk r).2=some 143∧kd r=0)∨(Z5 (R.lk r).1 (R.lk r).2=some 144∧kd r=1)∨(Z5 (R.lk r).1 (R.lk r).2=some 145∧kd r=2)∨(Z5 (R.lk r).1 (R.lk r).2=some 146∧kd r=3)∨(Z5 (R.lk r).1 (R.lk r).2=some 148∧isS r 40=true)∨(Z5 (R.lk r).1 (R.lk r).2=none∧vu grp r=none):=by
 unfold Z5 R.lk
 by_cases h0:kd r=0
 ·simp[h0]
 by_cases h1:kd r=1
 ·simp[h1]
 by_cases h2:kd r=2
 ·simp[h2]
 by_cases h3:kd r=3
 ·simp[h3]
 by_cases h4:isS r 40=true
 ·have hk:=isS_kd h4
  have ht:=isS_tx h4
  simp[hk,ht,h4]
 ·refine .inr (.inr (.inr (.inr (.inr ⟨?_,?_⟩))))
  ·have n4:¬(kd r=4∧tx r=[40]):=fun c=>h4 (by unfold isS;exact decide_eq_true c)
   by_cases e:kd r=4
   ·have:tx r≠[40]:=fun c=>n4 ⟨e,c⟩
    simp[e,this]
   ·simp[h0,h1,h2,h3,e]
  ·unfold vu
   simp[h0,h1,h2,h3,h4]
/-! ### What the recursive ones answer -/
def RES (b G m:Nat) (d:Int) (n:Nat) (w:World) (x:Res PT) (e:Ending) (w':World):Prop:=
 (∃v p r',x= .inr (p,r')∧e= .returned v∧PartE (New w w') w' v p∧Ends r'∧r'.length≤n∧Rd w' b G r' m d∧Bu b w w')∨(∃q why,x= .inl (q,why)∧e=xv q why∧Bu b w w')
def dp (d:Nat):Int:=12-(d:Int)
def GrpC (d:Nat):Prop:=∀(w:World) (b G:Nat) (r:List TN) (m:Nat),Rd w b G r m (dp d)→Ends r→isS r 40=true→r.length≤1000→Mq w m→
 Calls Tryz.prog 148 #[.pointer (some ⟨b,0,none⟩)] w (RES b G m (dp d) r.tail.length w (jX d r))
def SeqC (d:Nat):Prop:=∀(w:World) (b G:Nat) (r:List TN) (m:Nat),Rd w b G r m (dp d)→Ends r→r.length≤1000→Mq w m→
 Calls Tryz.prog 197 #[.pointer (some ⟨b,0,none⟩)] w (RES b G m (dp d) r.length w (seqL (jX d) r))
def AltC (d:Nat):Prop:=∀(w:World) (b G:Nat) (r:List TN) (m:Nat),Rd w b G r m (dp d)→Ends r→r.length≤1000→Mq w m→
 Calls Tryz.prog 154 #[.pointer (some ⟨b,0,none⟩)] w (RES b G m (dp d) r.length w (altL (jX d) r))
def leftN (b:Nat) (w:World):Nat:=
 match w.cell? ⟨b,0,none⟩with
 |some (.slice _ n _)=>n
 |_=>0
theorem Rd.left {w:World} {b G:Nat} {r:List TN} {m:Nat} {d:Int} (h:Rd w b G r m d):leftN b w=r.length:=by
 obtain⟨v,h1,off,cap,cur,f,cs',rfl,-⟩:=h
 unfold leftN
 rw[(jJ h1).1.1]
theorem Rd.cells {w:World} {b G:Nat} {r:List TN} {m:Nat} {d:Int} (h:Rd w b G r m d):∃cs,w.heap[b]? =some (.cells cs 142)∧w.cell? ⟨b,1,none⟩=some (.map (some m))∧w.cell? ⟨b,2,none⟩=some (.int .i64 d)∧w.frozen? ⟨b,2,none⟩=false:=by
 obtain⟨v,h1,-⟩:=h
 obtain⟨⟨-,q1,q2⟩,-,-,f2⟩:=jJ h1
 exact⟨_,h1,q1,q2,f2⟩
def OwnD (w wr:World) (v:Value):Nat→Prop:=fun g=>w.heap.size<g∧g<wr.heap.size∧some g≠v.ownBlock
theorem own_row5 {w:World} {base:Nat} {a:Option Addr} {n c:Nat} {cs:List Value} (h:w.ownsRow base 149 5 (.slice a n c) n cs) (D:Nat→Prop) (hD:∀g,base≤g→g<w.heap.size→D g):Row5 D w a n c cs:=by
 rcases h.2 with ⟨e,h0⟩|⟨g,cap,cur,e,hb,hg,hn,hm,hs,ht⟩
 ·injection e with e1 e2 e3
  subst e1;subst e3
  have:cs=[]:=List.eq_nil_of_length_eq_zero (by rw[h.1,h0])
  subst this
  exact⟨by omega,Nat.zero_le _,fun j u hu=>by simp at hu⟩
 ·injection e with e1 e2 e3
  subst e1;subst e3
  refine⟨hn,hm,fun j u hu=>⟨g,0,rfl,hD g hb (Array.getElem?_eq_some_iff.1 hg).1,?_⟩⟩
  rw[Nat.zero_add]
  simp only[World.cell?,hg]
  have hj:j<cs.length:=(List.getElem?_eq_some_iff.1 hu).1
  rw[←ht]at hu
  rw[List.getElem?_take_of_lt (by rw[h.1]at hj;omega)]at hu
  simpa using hu
theorem own_part {w:World} {base:Nat} {v:Value} {n:Nat} {cs:List Value} (h:w.ownsRow base 149 5 v n cs):∀k,v.ownBlock=some k→∃cs',w.heap[k]? =some (.cells cs' 149):=by
 intro k hk
 rcases h.2 with ⟨rfl,_⟩|⟨g,cap,cur,rfl,hb,hg,_⟩
 ·simp[Value.ownBlock]at hk
 ·simp[Value.ownBlock]at hk
  subst hk
  exact⟨cur,hg⟩
theorem Zx {w w':World} {b base:Nat} {v:Value} {n:Nat} {cs:List Value} (h:w.ownsRow base 149 5 v n cs) (bu:Bu b w w') (hb:b<base):w'.ownsRow base 149 5 v n cs:=
 h.kept bu (by
  cases e:v.ownBlock with
  |none=>exact .inl rfl
  |some k=>exact .inr (fun c=>by injection c with c;have:=(h.lt k e).1;omega))
theorem Mq.kept {w X:World} {m:Nat} (h:Mq w m) (k:∀o,w.heap[m]? =some o→(∀cs t fr,o≠ .cells cs t fr)→X.heap[m]? =some o):Mq X m:=by
 obtain⟨es,clock,l,h1,h2,h3⟩:=h
 exact⟨es,clock,l,k _ h1 (fun cs t fr e=>by cases e),h2,h3⟩
theorem Bu.grow {b:Nat} {w W X:World} {row:Option Nat} (h:Bu b w W) (g:W.grownBy X row) (hr:∀k,row=some k→w.heap.size≤k):Bu b w X:=
 ⟨g.os.trans h.os,g.tape.trans h.tape,g.output.trans h.output,Nat.le_trans h.size g.size,fun k hk hn=>(g.block k (Nat.lt_of_lt_of_le hk h.size) (fun e=>by have:=hr k e.symm;omega)).trans (h.block k hk hn)⟩
theorem ZJ:(Tryz.prog.info? 149).map (fun i=>(i.zero,i.size,i.bytes))=some (some (.agg #[.int .i64 0,.string ⟨#[]⟩,.slice none 0 0,.slice none 0 0,.int .i64 0]),5,80):=by kernel_rfl
theorem YX (w:World) (n:Nat) (x0 x1 x2 x3 x4:Value) (hn:n=w.heap.size):∀(j:Nat) (u:Value),[x0,x1,x2,x3,x4][j]? =some u→(w.alloc (.cells #[x0,x1,x2,x3,x4] 149)).cell? ((⟨n,0,none⟩:Addr).add j)=some u:=by
 subst hn
 exact World.news_of_block (cs:= #[x0,x1,x2,x3,x4]) (t:=149) (fr:=(0,0)) (heap_alloc_new w _)
structure RowI (b G m:Nat) (d:Int) (w:World) (acc:List PT) (rr:List TN) (v:Value) (cs:List Value) (wr:World):Prop where
 he:Ends rr
 rd:Rd wr b G rr m d
 mq:Mq wr m
 own:wr.ownsRow (w.heap.size+1) 149 5 v acc.length cs
 pts:PtC (PartE (OwnD w wr v) wr) acc cs
 bu:Bu b w wr
 out:wr.heap[w.heap.size]? =some (.cells #[.int .i64 0,.string ⟨#[]⟩,.slice none 0 0,.slice none 0 0,.int .i64 0] 149)
theorem RowI.snoc {b G m:Nat} {d:Int} {w wr w2 w4 w5:World} {acc:List PT} {rr r4:List TN} {v:Value} {cs:List Value} (h:RowI b G m d w acc rr v cs wr) (hb:b<w.heap.size) (hG:G<w.heap.size)
  (b2:Below wr.heap.size wr w2) (bu4:Bu b w2 w4) (he:Ends r4) (rd4:Rd w4 b G r4 m d) {p:PT} {x0 x1 x2 x3 x4:Value} (hp:PartE (New w2 w4) w4 (.agg #[x0,x1,x2,x3,x4]) p) {o:Obj} {gg cap:Nat}
  (ho:w5.ownsRow (w.heap.size+1) 149 5 (.slice (some ⟨gg,0,none⟩) (acc.length+1) cap) (acc.length+1) (cs++[x0,x1,x2,x3,x4])) (hg:(w4.alloc o).grownBy w5 v.ownBlock) (hat:v.ownBlock=some gg∨gg=(w4.alloc o).heap.size):
  RowI b G m d w (acc++[p]) r4 (.slice (some ⟨gg,0,none⟩) (acc.length+1) cap) (cs++[x0,x1,x2,x3,x4]) w5:=by
 obtain⟨-,rd,mq,own,pts,bu,out⟩:=h
 have s0:=bu.size
 have so:=(Array.getElem?_eq_some_iff.1 out).1
 have s2:=b2.size
 have s4:=bu4.size
 have lo:∀k,v.ownBlock=some k→w.heap.size+1≤k∧k<wr.heap.size:=own.lt
 have sA:(w4.alloc o).heap.size=w4.heap.size+1:=by simp
 have s5:=hg.size
 -- blocks that stay, from where they are
 have st2:∀g,g<wr.heap.size→g≠b→some g≠v.ownBlock→w5.heap[g]? =wr.heap[g]? :=fun g h1 h2 h3=>by
  rw[hg.block g (by omega) h3,(Below.new1 o).block g (by omega),bu4.block g (by omega) (fun e=>h2 (by injection e)),b2.block g h1]
 have st4:∀g,w2.heap.size≤g→g<w4.heap.size→w5.heap[g]? =w4.heap[g]? :=fun g h1 h2=>by
  rw[hg.block g (by omega) (fun e=>by have:=(lo g e.symm).2;omega),(Below.new1 o).block g h2]
 have stb:∀g,g≠b→g<wr.heap.size→some g≠v.ownBlock→w5.heap[g]? =w4.heap[g]? :=fun g h2 h1 h3=>by
  rw[hg.block g (by omega) h3,(Below.new1 o).block g (by omega)]
 have krA:KR w4 w5:=by
  refine(KR.of (Below.new1 o)).then (KR.grown hg fun k hk=> ?_)
  obtain⟨cs',hc⟩:=own_part own k hk
  have hkb:k≠b:=by have:=(lo k hk).1;omega
  exact⟨cs',149,_,zK (bu4.at ((b2.block k (lo k hk).2).trans hc) hkb) o,by decide⟩
 obtain⟨rc,hrc,-⟩:=rd.cells
 have krB:KR wr w4:=(KR.of b2).then (KR.bu bu4 ((b2.block b (by omega)).trans hrc) (by decide))
 have nbo:some b≠v.ownBlock:=fun e=>by have:=(lo b e.symm).1;omega
 have nGo:some G≠v.ownBlock:=fun e=>by have:=(lo G e.symm).1;omega
 refine⟨he,?_,?_,by rw[List.length_append];exact ho,?_,?_,?_⟩
 ·refine rd4.kept ?_ ?_ krA
  ·rw[hg.block b (by omega) nbo,(Below.new1 o).block b (by omega)]
  ·rw[hg.block G (by omega) nGo,(Below.new1 o).block G (by omega)]
 ·refine mq.kept fun ob h1 h2=> ?_
  have hm:=(Array.getElem?_eq_some_iff.1 h1).1
  rw[st2 m hm (fun e=>by subst e;rw[hrc]at h1;injection h1 with h1;exact h2 _ _ _ h1.symm) (fun e=>by
   obtain⟨cs',hc⟩:=own_part own m e.symm
   rw[hc]at h1;injection h1 with h1;exact h2 _ _ _ h1.symm)]
  exact h1
 ·refine PtC.snoc (P:=PartE (OwnD w w5 (.slice (some ⟨gg,0,none⟩) (acc.length+1) cap)) w5) ?_ acc cs (PtC.mono (fun u q hq=> ?_) _ _ pts)
  ·refine hp.kept (fun g hg'=>⟨⟨by have:=hg'.1;omega,by have:=hg'.2;omega,?_⟩,st4 g hg'.1 hg'.2⟩) krA
   intro e
   simp only[Value.ownBlock,Option.some.injEq]at e
   rcases hat with h1|h1
   ·have:=(lo gg h1).2;have:=hg'.1;omega
   ·have:=hg'.2;omega
  ·refine hq.kept (fun g hg'=>⟨⟨hg'.1,by have:=hg'.2.1;omega,?_⟩,st2 g hg'.2.1 (by have:=hg'.1;omega) hg'.2.2⟩) (krB.then krA)
   intro e
   simp only[Value.ownBlock,Option.some.injEq]at e
   rcases hat with h1|h1
   ·exact hg'.2.2 (by rw[h1,e])
   ·have:=hg'.2.1;omega
 ·exact(((bu.then (Bu.of b2)).then bu4).alloc o).grow hg (fun k hk=>by have:=(lo k hk).1;omega)
 ·rw[st2 w.heap.size (by have:=(Array.getElem?_eq_some_iff.1 out).1;exact this) (by omega) (fun e=>by have:=(lo _ e.symm).1;omega)]
  exact out
theorem RowI.parts {b G m:Nat} {d:Int} {w wr w2:World} {acc:List PT} {rr:List TN} {a:Option Addr} {n c:Nat} {cs:List Value} (h:RowI b G m d w acc rr (.slice a n c) cs wr) (hn:n=acc.length) (b2:Below wr.heap.size wr w2):
  PartsE (fun g=>w.heap.size<g∧g<w2.heap.size) w2 a n c acc:=by
 subst hn
 have s2:=b2.size
 obtain⟨k,hk⟩:=PtC.all acc cs (PtC.mono (fun u q hq=>hq.kept (D':=fun g=>w.heap.size<g∧g<w2.heap.size) (fun g hg=>⟨⟨hg.1,by have:=hg.2.1;omega⟩,b2.block g hg.2.1⟩) (KR.of b2)) _ _ h.pts)
 exact⟨k,cs,rfl,own_row5 (j5 b2 h.own) _ (fun g h1 h2=>⟨by omega,h2⟩),hk⟩
end Go.Proofs.YtcblkmlcbedomaaGreatDoor.R
namespace Go.Proofs.YtcblkmlcbedomaaGreatDoor.F
open Go.RowKit Go.Proofs.YtcblkmlcbedomaaGreatDoor.T Go.Proofs.YtcblkmlcbedomaaGreatDoor.R
/-! ### Rows of a type -/
def RowT (t:TypeId) (D:Nat→Prop) (w:World) (a:Option Addr) (len cap:Nat) (cs:List Value):Prop:=
 len≤cap∧cap≤maxLen∧(cs=[]∨∃g off cur fr,a=some ⟨g,off,none⟩∧D g∧w.heap[g]? =some (.cells cur t fr)∧∀(j:Nat) (u:Value),cs[j]? =some u→cur[off+j]? =some u)
theorem RowT.kept {t:TypeId} {D D':Nat→Prop} {w X:World} {a:Option Addr} {len cap:Nat} {cs:List Value} (h:RowT t D w a len cap cs) (k:∀g cur fr,D g→w.heap[g]? =some (.cells cur t fr)→D' g∧X.heap[g]? =some (.cells cur t fr)):RowT t D' X a len cap cs:=by
 obtain⟨h1,h2,h3⟩:=h
 refine⟨h1,h2,?_⟩
 rcases h3 with h|⟨g,off,cur,fr,ha,hd,hg,hc⟩
 ·exact .inl h
 ·exact .inr ⟨g,off,cur,fr,ha,(k g cur fr hd hg).1,(k g cur fr hd hg).2,hc⟩
theorem RowT.cell {t:TypeId} {D:Nat→Prop} {w:World} {a:Option Addr} {len cap:Nat} {cs:List Value} (h:RowT t D w a len cap cs) {j:Nat} {u:Value} (hj:cs[j]? =some u):∃g off,a=some ⟨g,off,none⟩∧D g∧w.cell? ⟨g,off+j,none⟩=some u:=by
 obtain⟨h1,h2,h3⟩:=h
 rcases h3 with h|⟨g,off,cur,fr,ha,hd,hg,hc⟩
 ·rw[h]at hj;simp at hj
 ·exact⟨g,off,ha,hd,by simp[World.cell?,hg,hc j u hj]⟩
theorem RowT.ofOwn {t:TypeId} {D:Nat→Prop} {w:World} {B sz:Nat} {a:Option Addr} {n c:Nat} {cs:List Value} (h:w.ownsRow B t sz (.slice a n c) n cs) (hD:∀g,(Value.slice a n c).ownBlock=some g→D g):RowT t D w a n c cs:=by
 rcases h.2 with ⟨e,h0⟩|⟨g,cap,cur,e,hb,hg,hn,hm,hs,ht⟩
 ·injection e with e1 e2 e3
  subst e1;subst e3
  have:cs=[]:=List.eq_nil_of_length_eq_zero (by rw[h.1,h0];simp)
  exact⟨by omega,Nat.zero_le _,.inl this⟩
 ·injection e with e1 e2 e3
  subst e1;subst e3
  refine⟨hn,hm,.inr ⟨g,0,cur,(0,0),rfl,hD g rfl,hg,fun j u hu=> ?_⟩⟩
  rw[Nat.zero_add]
  have hj:j<cs.length:=(List.getElem?_eq_some_iff.1 hu).1
  rw[←ht]at hu
  rw[List.getElem?_take_of_lt (by rw[h.1]at hj;omega)]at hu
  simpa using hu
theorem ju {w:World} {base:Nat} {v:Value} {n:Nat} {cs:List Value} {T:TypeId} {sz:Nat} (h:w.ownsRow base T sz v n cs):∀k,v.ownBlock=some k→∃cs',w.heap[k]? =some (.cells cs' T):=by
 intro k hk
 rcases h.2 with ⟨rfl,_⟩|⟨g,cap,cur,rfl,hb,hg,_⟩
 ·simp[Value.ownBlock]at hk
 ·simp[Value.ownBlock]at hk
  subst hk
  exact⟨cur,hg⟩
/-! ### Symbols -/
def SyC (w:World):List SY→List Value→Prop
 | [],cs=>cs=[]
 |s::l,cs=>∃a c cs',cs= .int .i64 s.1:: .slice a s.2.1.length c:: .int .i64 s.2.2::cs'∧Rs w a s.2.1.length c s.2.1∧Ty w a∧SyC w l cs'
theorem SyC.kr {w X:World} (k:KR w X):∀(l:List SY) (cs:List Value),SyC w l cs→SyC X l cs:=by
 intro l
 induction l with
 |nil=>intro cs h;exact h
 |cons s l ih=>
  intro cs h
  obtain⟨a,c,cs',e,hr,hy,ht⟩:=h
  obtain⟨hr',hy'⟩:=vK k hr hy
  exact⟨a,c,cs',e,hr',hy',ih _ ht⟩
theorem SyC.len {w:World}:∀(l:List SY) (cs:List Value),SyC w l cs→cs.length=3*l.length:=by
 intro l
 induction l with
 |nil=>intro cs h;have:cs=[]:=h;subst this;rfl
 |cons s l ih=>
  intro cs h
  obtain⟨a,c,cs',rfl,-,-,ht⟩:=h
  have:=ih _ ht
  simp only[List.length_cons,this];omega
theorem SyC.snoc {w:World} {s:SY} {a:Option Addr} {c:Nat} (hr:Rs w a s.2.1.length c s.2.1) (hy:Ty w a):∀(l:List SY) (cs:List Value),SyC w l cs→SyC w (l++[s]) (cs++[.int .i64 s.1,.slice a s.2.1.length c,.int .i64 s.2.2]):=by
 intro l
 induction l with
 |nil=>
  intro cs h
  have:cs=[]:=h
  subst this
  exact⟨a,c,[],rfl,hr,hy,rfl⟩
 |cons x l ih=>
  intro cs h
  obtain⟨a',c',cs',rfl,hr',hy',ht⟩:=h
  exact⟨a',c',_,rfl,hr',hy',ih _ ht⟩
def SymsV (D:Nat→Prop) (w:World) (v:Value) (l:List SY):Prop:=∃a c cs,v= .slice a l.length c∧RowT 43 D w a l.length c cs∧SyC w l cs
def SqC (D:Nat→Prop) (w:World):List (List SY)→List Value→Prop
 | [],cs=>cs=[]
 |l::A,cs=>∃c0 cs',cs=c0::cs'∧SymsV D w c0 l∧SqC D w A cs'
def AltV (D:Nat→Prop) (w:World) (v:Value) (A:List (List SY)):Prop:=∃a c cs,v= .slice a A.length c∧RowT 44 D w a A.length c cs∧SqC D w A cs
def NotV (w:World) (v:Value) (N:List (Int×Int)):Prop:=∃a c,v= .slice a N.length c∧Rs w a N.length c N∧Ty w a
def PrC (D:Nat→Prop) (w:World):List PRD→List Value→Prop
 | [],cs=>cs=[]
 |p::l,cs=>∃c0 c2 cs',cs=c0:: .int .i64 p.2.1::c2::cs'∧AltV D w c0 p.1∧NotV w c2 p.2.2∧PrC D w l cs'
def MadeV (D:Nat→Prop) (w:World) (B:Nat) (v:Value) (l:List PRD):Prop:=l.length≤60∧∃cs,w.ownsRow B 41 3 v l.length cs∧PrC D w l cs
def LV (w:World) (B:Nat) (v:Value) (l:List SY):Prop:=l.length≤41∧∃cs,w.ownsRow B 43 3 v l.length cs∧SyC w l cs
def AlV (D:Nat→Prop) (w:World) (B:Nat) (v:Value) (A:List (List SY)):Prop:=A.length≤9∧∃cs,w.ownsRow B 44 1 v A.length cs∧SqC D w A cs
/-! ### What stays -/
def Kp (D D':Nat→Prop) (w X:World):Prop:=KR w X∧∀g cur fr t,(t=43∨t=44)→D g→w.heap[g]? =some (.cells cur t fr)→D' g∧X.heap[g]? =some (.cells cur t fr)
theorem Kp.weak {D D':Nat→Prop} (w:World) (h:∀g,D g→D' g):Kp D D' w w:=⟨KR.refl w,fun g cur fr t _ hd hg=>⟨h g hd,hg⟩⟩
theorem Kp.of {D:Nat→Prop} {w X:World} (h:Below w.heap.size w X):Kp D D w X:=⟨KR.of h,fun g cur fr t _ hd hg=>⟨hd,(h.block g (Array.getElem?_eq_some_iff.1 hg).1).trans hg⟩⟩
theorem SymsV.kp {D D':Nat→Prop} {w X:World} (k:Kp D D' w X) {v:Value} {l:List SY} (h:SymsV D w v l):SymsV D' X v l:=by
 obtain⟨a,c,cs,e,hr,hs⟩:=h
 exact⟨a,c,cs,e,hr.kept (fun g cur fr hd hg=>k.2 g cur fr _ (.inl rfl) hd hg),SyC.kr k.1 _ _ hs⟩
theorem SqC.kp {D D':Nat→Prop} {w X:World} (k:Kp D D' w X):∀(A:List (List SY)) (cs:List Value),SqC D w A cs→SqC D' X A cs:=by
 intro A
 induction A with
 |nil=>intro cs h;exact h
 |cons l A ih=>
  intro cs h
  obtain⟨c0,cs',e,hs,ht⟩:=h
  exact⟨c0,cs',e,hs.kp k,ih _ ht⟩
theorem AltV.kp {D D':Nat→Prop} {w X:World} (k:Kp D D' w X) {v:Value} {A:List (List SY)} (h:AltV D w v A):AltV D' X v A:=by
 obtain⟨a,c,cs,e,hr,hs⟩:=h
 exact⟨a,c,cs,e,hr.kept (fun g cur fr hd hg=>k.2 g cur fr _ (.inr rfl) hd hg),SqC.kp k _ _ hs⟩
theorem NotV.kr {w X:World} (k:KR w X) {v:Value} {N:List (Int×Int)} (h:NotV w v N):NotV X v N:=by
 obtain⟨a,c,e,hr,hy⟩:=h
 obtain⟨hr',hy'⟩:=vK k hr hy
 exact⟨a,c,e,hr',hy'⟩
theorem PrC.kp {D D':Nat→Prop} {w X:World} (k:Kp D D' w X):∀(l:List PRD) (cs:List Value),PrC D w l cs→PrC D' X l cs:=by
 intro l
 induction l with
 |nil=>intro cs h;exact h
 |cons p l ih=>
  intro cs h
  obtain⟨c0,c2,cs',e,ha,hn,ht⟩:=h
  exact⟨c0,c2,cs',e,ha.kp k,hn.kr k.1,ih _ ht⟩
theorem PrC.len {D:Nat→Prop} {w:World}:∀(l:List PRD) (cs:List Value),PrC D w l cs→cs.length=3*l.length:=by
 intro l
 induction l with
 |nil=>intro cs h;have:cs=[]:=h;subst this;rfl
 |cons s l ih=>
  intro cs h
  obtain⟨c0,c2,cs',rfl,-,-,ht⟩:=h
  have:=ih _ ht
  simp only[List.length_cons,this];omega
theorem PrC.snoc {D:Nat→Prop} {w:World} {p:PRD} {c0 c2:Value} (ha:AltV D w c0 p.1) (hn:NotV w c2 p.2.2):∀(l:List PRD) (cs:List Value),PrC D w l cs→PrC D w (l++[p]) (cs++[c0,.int .i64 p.2.1,c2]):=by
 intro l
 induction l with
 |nil=>
  intro cs h
  have:cs=[]:=h
  subst this
  exact⟨c0,c2,[],rfl,ha,hn,rfl⟩
 |cons x l ih=>
  intro cs h
  obtain⟨d0,d2,cs',rfl,ha',hn',ht⟩:=h
  exact⟨d0,d2,_,rfl,ha',hn',ih _ ht⟩
theorem PrC.set {D:Nat→Prop} {w:World} {A:List (List SY)} {v:Value} (ha:AltV D w v A):∀(l:List PRD) (cs:List Value) (n:Nat),n<l.length→PrC D w l cs→PrC D w (setA l n A) (cs.set (3*n) v):=by
 intro l
 induction l with
 |nil=>intro cs n hn h;simp at hn
 |cons x l ih=>
  intro cs n hn h
  obtain⟨d0,d2,cs',rfl,ha',hn',ht⟩:=h
  cases n with
  |zero=>exact⟨v,d2,cs',by simp,ha,hn',ht⟩
  |succ n=>
   refine⟨d0,d2,cs'.set (3*n) v,?_,ha',hn',ih _ n (by simp at hn;omega) ht⟩
   rw[show 3*(n+1)=3*n+1+1+1 by omega]
   simp
theorem SqC.snoc {D:Nat→Prop} {w:World} {l:List SY} {v:Value} (hv:SymsV D w v l):∀(A:List (List SY)) (cs:List Value),SqC D w A cs→SqC D w (A++[l]) (cs++[v]):=by
 intro A
 induction A with
 |nil=>
  intro cs h
  have:cs=[]:=h
  subst this
  exact⟨v,[],rfl,hv,rfl⟩
 |cons x A ih=>
  intro cs h
  obtain⟨d0,cs',rfl,ha',ht⟩:=h
  exact⟨d0,_,rfl,ha',ih _ ht⟩
theorem LV.syms {D:Nat→Prop} {w:World} {B:Nat} {v:Value} {l:List SY} (h:LV w B v l) (hD:∀g,v.ownBlock=some g→D g):SymsV D w v l:=by
 obtain⟨-,cs,own,hs⟩:=h
 obtain⟨a,c,rfl⟩:=xu own
 exact⟨a,c,cs,rfl,RowT.ofOwn own hD,hs⟩
theorem AlV.alt {D:Nat→Prop} {w:World} {B:Nat} {v:Value} {A:List (List SY)} (h:AlV D w B v A) (hD:∀g,v.ownBlock=some g→D g):AltV D w v A:=by
 obtain⟨-,cs,own,hs⟩:=h
 obtain⟨a,c,rfl⟩:=xu own
 exact⟨a,c,cs,rfl,RowT.ofOwn own hD,hs⟩
theorem LV.form {w:World} {B:Nat} {v:Value} {l:List SY} (h:LV w B v l):∃a c,v= .slice a l.length c:=by
 obtain⟨-,cs,own,hs⟩:=h
 exact xu own
theorem LV.nil (w:World) (B:Nat):LV w B (.slice none 0 0) []:=⟨Nat.zero_le _,[],World.ownsRow_nil w B _ _,rfl⟩
theorem LV.later {w X:World} {B:Nat} {v:Value} {l:List SY} (h:LV w B v l) (b:Below w.heap.size w X):LV X B v l:=by
 obtain⟨h1,cs,own,hs⟩:=h
 exact⟨h1,cs,j5 b own,SyC.kr (KR.of b) _ _ hs⟩
/-! ### Names -/
def Nm (w:World) (m:Nat) (ns:List (List Int)):Prop:=
 ∃es clock,w.heap[m]? =some (.map es clock)∧es.size=ns.length∧(∀x∈ns,U.zv x)∧∀x,U.zv x→Instr.findNow .string (.string (strOfNums x)) es.toList 0=some ((idx x ns 0).map fun n=>(n,.int .i64 (n:Nat)))
theorem Nm.keep {w X:World} {m:Nat} {ns:List (List Int)} (h:Nm w m ns) (k:∀o,w.heap[m]? =some o→(∀cs t fr,o≠ .cells cs t fr)→X.heap[m]? =some o):Nm X m ns:=by
 obtain⟨es,clock,h1,h2,h3,h4⟩:=h
 exact⟨es,clock,k _ h1 (fun _ _ _ e=>by cases e),h2,h3,h4⟩
theorem Nm.later {w X:World} {m:Nat} {ns:List (List Int)} (h:Nm w m ns) (b:Below w.heap.size w X):Nm X m ns:=
 h.keep fun o ho _=>(b.block m (Array.getElem?_eq_some_iff.1 ho).1).trans ho
theorem Nm.lt {w:World} {m:Nat} {ns:List (List Int)} (h:Nm w m ns):m<w.heap.size:=by
 obtain⟨es,clock,h1,-⟩:=h
 exact(Array.getElem?_eq_some_iff.1 h1).1
theorem Nm.new (w:World):Nm (w.alloc (.map #[] 0)) w.heap.size []:=⟨#[],0,heap_alloc_new w _,rfl,⟨fun x hx=>(by cases hx),fun x hx=>rfl⟩⟩
theorem idx_snoc (x y:List Int):∀(ns:List (List Int)) (i:Nat),idx x (ns++[y]) i=match idx x ns i with|some n=>some n|none=>if x=y then some (i+ns.length)else none:=by
 intro ns
 induction ns with
 |nil=>intro i;simp[idx]
 |cons z ns ih=>
  intro i
  simp only[List.cons_append,idx]
  by_cases h:x=z
  ·simp[h]
  ·rw[if_neg h,if_neg h,ih (i+1)]
   simp only[List.length_cons]
   rw[show i+1+ns.length=i+(ns.length+1) by omega]
theorem ck_str (e:Bool) (s:ByteArray) (W:World):(Instr.checkKey e 10000 9 (.string s)).run Tryz.prog W= .ok () W:=by
 show(Instr.checkKey e (9999+1) 9 (.string s)).run Tryz.prog W= .ok () W
 rw[Instr.checkKey]
 simp[run_underlying Tryz.underlying9]
theorem str_same {x y:List Int} (hx:U.zv x) (hy:U.zv y):(strOfNums x==strOfNums y)=decide (x=y):=by
 rw[beq_toListBytes]
 exact str_eq_list (St.of hx) (St.of hy)
theorem Nm.put {w:World} {m:Nat} {ns:List (List Int)} (h:Nm w m ns) {x:List Int} (hx:U.zv x) (hn:idx x ns 0=none):
  ∃w',(Instr.mapUpdate 106 (.map (some m)) (.string (strOfNums x)) (.int .i64 (ns.length:Nat))).run Tryz.prog w= .ok () w'∧Nm w' m (ns++[x])∧w'.heap.size=w.heap.size∧(∀k,k≠m→w'.heap[k]? =w.heap[k]?)∧w'.os=w.os∧w'.tape=w.tape∧w'.output=w.output:=by
 obtain⟨es,clock,hb,hs,hbs,hf⟩:=h
 have hlt:=(Array.getElem?_eq_some_iff.1 hb).1
 have hnow:=hf x hx
 rw[hn]at hnow
 refine⟨{w with heap:=w.heap.setIfInBounds m (.map (es.push {key:= .string (strOfNums x),val:= .int .i64 (ns.length:Nat),born:=clock}) (clock+1))},?_,?_,by simp,fun k hk=>by simp[Array.getElem?_setIfInBounds,Ne.symm hk],rfl,rfl,rfl⟩
 ·simp[Instr.mapUpdate,run_underlying Tryz.underlying106,getObj,setObj,hb,ck_str,run_underlying Tryz.underlying9,Instr.findKey,hnow,Sem.run]
 ·refine⟨es.push {key:= .string (strOfNums x),val:= .int .i64 (ns.length:Nat),born:=clock},clock+1,by simp[Array.getElem?_setIfInBounds,hlt],by simp[hs],?_,fun y hy=> ?_⟩
  ·intro y hy
   rcases List.mem_append.1 hy with h|h
   ·exact hbs y h
   ·simp at h;subst h;exact hx
  ·rw[Array.toList_push,find_app,idx_snoc,hf y hy]
   cases e:idx y ns 0 with
   |some n=>rfl
   |none=>
    simp only[Option.map_none]
    unfold Instr.findNow Instr.sameNow
    simp only[str_same hy hx]
    by_cases c:y=x
    ·simp[c,hs]
    ·simp[c,Instr.findNow]
theorem Nm.get {w:World} {m:Nat} {ns:List (List Int)} (h:Nm w m ns) {x:List Int} (hx:U.zv x):
  (Instr.lookup 106 (.map (some m)) (.string (strOfNums x)) true).run Tryz.prog w= .ok (.tuple #[.int .i64 (((idx x ns 0).getD 0:Nat):Int),.bool (idx x ns 0).isSome]) w:=by
 obtain⟨es,clock,hb,hs,hbs,hf⟩:=h
 have hz:(zeroValue 3).run Tryz.prog w= .ok (.int .i64 0) w:=by kernel_rfl
 have hnow:=hf x hx
 cases e:idx x ns 0 with
 |none=>
  rw[e]at hnow
  simp[Instr.lookup,run_underlying Tryz.underlying106,getObj,hb,ck_str,run_underlying Tryz.underlying9,Instr.findKey,hnow,hz,Sem.run]
 |some n=>
  rw[e]at hnow
  simp[Instr.lookup,run_underlying Tryz.underlying106,getObj,hb,ck_str,run_underlying Tryz.underlying9,Instr.findKey,hnow,Sem.run]
/-! ### The maker -/
def wayV (f b:Nat):Value:= .func (.func f) #[.pointer (some ⟨b,0,none⟩)] #[]
def qw (v:Value) (m b:Nat) (d:Int) (s:Mk):Array Value:=
 #[v,.map (some m),wayV 102 b,wayV 103 b,wayV 104 b,wayV 105 b,wayV 106 b,wayV 107 b,wayV 108 b,wayV 109 b,wayV 110 b,.int .i64 d,.int .i64 s.left,.int .i64 s.pl,.int .i64 s.why]
structure MakV (D:Nat→Prop) (w:World) (B b m:Nat) (ns:List (List Int)) (d:Int) (v:Value) (s:Mk):Prop where
 hB:B≤b
 hm:B≤m
 d0:0≤d∧d≤131072
 l0:0≤s.left∧s.left≤2147483647
 cells:w.heap[b]? =some (.cells (qw v m b d s) 111)
 made:MadeV D w B v s.made
 names:Nm w m ns
def Mak (D:Nat→Prop) (w:World) (B b m:Nat) (ns:List (List Int)) (d:Int) (s:Mk):Prop:=∃v,MakV D w B b m ns d v s
structure Fl (B b:Nat) (x:Option Nat) (w w':World):Prop where
 os:w'.os=w.os
 tape:w'.tape=w.tape
 output:w'.output=w.output
 size:w.heap.size≤w'.heap.size
 low:∀k,k<B→k<w.heap.size→w'.heap[k]? =w.heap[k]?
 block:∀k o,w.heap[k]? =some o→k≠b→some k≠x→(∀cs fr,o≠ .cells cs 41 fr)→w'.heap[k]? =some o
theorem Fl.refl (B b:Nat) (x:Option Nat) (w:World):Fl B b x w w:=⟨rfl,rfl,rfl,Nat.le_refl _,fun _ _ _=>rfl,fun _ _ h _ _ _=>h⟩
theorem Fl.of {B b:Nat} {x:Option Nat} {w X:World} (h:Below w.heap.size w X):Fl B b x w X:=
 ⟨h.os,h.tape,h.output,h.size,fun k _ h2=>h.block k h2,fun k o h1 _ _ _=>(h.block k (Array.getElem?_eq_some_iff.1 h1).1).trans h1⟩
theorem Fl.then {B b:Nat} {x y:Option Nat} {w X Y:World} (h:Fl B b x w X) (k:Fl B b y X Y) (hy:∀g,y=some g→x=some g∨w.heap.size≤g):Fl B b x w Y:=
 ⟨k.os.trans h.os,k.tape.trans h.tape,k.output.trans h.output,Nat.le_trans h.size k.size,fun i h1 h2=>(k.low i h1 (Nat.lt_of_lt_of_le h2 h.size)).trans (h.low i h1 h2),fun i o h1 h2 h3 h4=>k.block i o (h.block i o h1 h2 h3 h4) h2 (fun e=>by
  rcases hy i e.symm with c|c
  ·exact h3 c.symm
  ·have:=(Array.getElem?_eq_some_iff.1 h1).1;omega) h4⟩
theorem Fl.none {B b:Nat} {x:Option Nat} {w X:World} (h:Fl B b none w X):Fl B b x w X:=⟨h.os,h.tape,h.output,h.size,h.low,fun k o h1 h2 _ h4=>h.block k o h1 h2 (fun e=>by cases e) h4⟩
theorem Fl.set {B b:Nat} {x:Option Nat} (w:World) (hB:B≤b) (i:Nat) (u:Value):Fl B b x w (w.setCell ⟨b,i,Option.none⟩ u):=
 ⟨rfl,rfl,rfl,by simp,fun k h1 h2=>Below.heap_setCell w ⟨b,i,Option.none⟩ u k (by simp only;omega),fun k o h1 h2 _ _=>zw h1 h2 u⟩
theorem Fl.below {B b:Nat} {x:Option Nat} {w X:World} (h:Fl B b x w X) (hB:B≤w.heap.size):Below B w X:=⟨h.os,h.tape,h.output,h.size,fun k hk=>h.low k hk (by omega)⟩
theorem Fl.grown {B b:Nat} {x:Option Nat} {w X:World} (h:w.grownBy X x) (hx:∀k,x=some k→B≤k):Fl B b x w X:=
 ⟨h.os,h.tape,h.output,h.size,fun k h1 h2=>h.block k h2 (fun e=>by have:=hx k e.symm;omega),fun k o h1 _ h3 _=>(h.block k (Array.getElem?_eq_some_iff.1 h1).1 h3).trans h1⟩
theorem Fl.grownP {B b:Nat} {x row:Option Nat} {w X:World} (h:w.grownBy X row) (hx:∀k,row=some k→B≤k∧∃cs fr,w.heap[k]? =some (.cells cs 41 fr)):Fl B b x w X:=
 ⟨h.os,h.tape,h.output,h.size,fun k h1 h2=>h.block k h2 (fun e=>by have:=(hx k e.symm).1;omega),fun k o h1 _ _ h4=>(h.block k (Array.getElem?_eq_some_iff.1 h1).1 (fun e=>by
  obtain⟨-,cs,fr,hc⟩:=hx k e.symm
  rw[h1]at hc;injection hc with hc;exact h4 cs fr hc)).trans h1⟩
theorem Fl.kr {B b:Nat} {x:Option Nat} {w X:World} (h:Fl B b x w X) {cs:Array Value} {fr:Nat×Nat} (hb:w.heap[b]? =some (.cells cs 111 fr)) (hx:∀k,x=some k→∃cs fr,w.heap[k]? =some (.cells cs 43 fr)):KR w X:=fun g cs' fr' hg=>by
 refine h.block g _ hg (yq hg hb (by decide)) (fun e=> ?_) (fun cs2 fr2 e=> ?_)
 ·obtain⟨cs2,fr2,h2⟩:=hx g e.symm
  exact yq hg h2 (by decide) rfl
 ·injection e with _ e;exact absurd e (by decide)
theorem Fl.kp {B b:Nat} {x:Option Nat} {w X:World} (h:Fl B b x w X) {cs:Array Value} {fr:Nat×Nat} (hb:w.heap[b]? =some (.cells cs 111 fr)) (hx:∀k,x=some k→∃cs fr,w.heap[k]? =some (.cells cs 43 fr)) {D D':Nat→Prop} (hD:∀g,g<w.heap.size→D g→some g≠x∧D' g):Kp D D' w X:=by
 refine⟨h.kr hb hx,fun g cur fr' t ht hd hg=> ?_⟩
 have hd':=hD g (Array.getElem?_eq_some_iff.1 hg).1 hd
 refine⟨hd'.2,h.block g _ hg (yq hg hb ?_) hd'.1 (fun cs2 fr2 e=> ?_)⟩
 ·rcases ht with rfl|rfl<;>decide
 ·injection e with _ e
  rcases ht with rfl|rfl<;>exact absurd e (by decide)
theorem gb_of {w X:World} (h:Below w.heap.size w X) (row:Option Nat):w.grownBy X row:=⟨h.os,h.tape,h.output,h.size,fun k hk _=>h.block k hk⟩
theorem gb_then {w W X:World} {row:Option Nat} (h:Below w.heap.size w W) (g:W.grownBy X row):w.grownBy X row:=⟨g.os.trans h.os,g.tape.trans h.tape,g.output.trans h.output,Nat.le_trans h.size g.size,fun k hk hn=>(g.block k (Nat.lt_of_lt_of_le hk h.size) hn).trans (h.block k hk)⟩
def Nx (w:World) (v v':Value):Prop:=∀g,v'.ownBlock=some g→v.ownBlock=some g∨w.heap.size≤g
theorem Nx.refl (w:World) (v:Value):Nx w v v:=fun g h=> .inl h
theorem LV.block {w:World} {B:Nat} {v:Value} {l:List SY} (h:LV w B v l):∀k,v.ownBlock=some k→∃cs fr,w.heap[k]? =some (.cells cs 43 fr):=by
 obtain⟨-,cs,own,-⟩:=h
 intro k hk
 obtain⟨cs',hc⟩:=ju own k hk
 exact⟨cs',_,hc⟩
theorem LV.lt {w:World} {B:Nat} {v:Value} {l:List SY} (h:LV w B v l):∀k,v.ownBlock=some k→B≤k∧k<w.heap.size:=by
 obtain⟨-,cs,own,-⟩:=h
 exact own.lt
theorem MadeV.block {D:Nat→Prop} {w:World} {B:Nat} {v:Value} {l:List PRD} (h:MadeV D w B v l):∀k,v.ownBlock=some k→B≤k∧∃cs fr,w.heap[k]? =some (.cells cs 41 fr):=by
 obtain⟨-,cs,own,-⟩:=h
 intro k hk
 obtain⟨cs',hc⟩:=ju own k hk
 exact⟨(own.lt k hk).1,cs',_,hc⟩
theorem MadeV.form {D:Nat→Prop} {w:World} {B:Nat} {v:Value} {l:List PRD} (h:MadeV D w B v l):∃a c,v= .slice a l.length c:=by
 obtain⟨-,cs,own,-⟩:=h
 exact xu own
theorem YZ {w X:World} {B:Nat} {t:TypeId} {sz:Nat} {v:Value} {n:Nat} {cs:List Value} (h:w.ownsRow B t sz v n cs) (k:∀g o,v.ownBlock=some g→w.heap[g]? =some o→X.heap[g]? =some o):X.ownsRow B t sz v n cs:=by
 refine⟨h.1,?_⟩
 rcases h.2 with hn|⟨g,cap,cur,e,hb,hg,rest⟩
 ·exact .inl hn
 ·exact .inr ⟨g,cap,cur,e,hb,k g _ (by rw[e];rfl) hg,rest⟩
theorem LV.fl {B b:Nat} {x:Option Nat} {w X:World} {v:Value} {l:List SY} (h:LV w B v l) (f:Fl B b x w X) {cs:Array Value} {fr:Nat×Nat} (hb:w.heap[b]? =some (.cells cs 111 fr)) (hx:∀k,x=some k→∃cs fr,w.heap[k]? =some (.cells cs 43 fr)) (hv:∀g,v.ownBlock=some g→x≠some g):LV X B v l:=by
 have hbl:=h.block
 obtain⟨h1,cs',own,hs⟩:=h
 refine⟨h1,cs',YZ own (fun g o hg ho=> ?_),SyC.kr (f.kr hb hx) _ _ hs⟩
 obtain⟨c1,f1,hc⟩:=hbl g hg
 rw[hc]at ho
 injection ho with ho
 subst ho
 exact f.block g _ hc (yq hc hb (by decide)) (fun e=>hv g hg e.symm) (fun c2 f2 e=>by injection e with _ e;exact absurd e (by decide))
/-! ### Parts that lie in blocks below B -/
def Lo (B:Nat) (a:Option Addr) (n:Nat):Prop:=0<n→∀g off,a=some ⟨g,off,none⟩→g<B
def PartB (B:Nat):Nat→World→Value→PT→Prop
 |0,_,_,_=>False
 |n+1,w,v,p=>∃k t R L q aR cR aL cL cs,p=mk k t R L q∧v= .agg #[.int .i64 k,.string (strOfNums t),.slice aR R.length cR,.slice aL L.length cL,.int .i64 q]∧yQ k∧U.zv t∧yQ q∧Rs w aR R.length cR R∧Lo B aR R.length∧Row5 (fun g=>g<B) w aL L.length cL cs∧PtC (PartB B n w) L cs
theorem rs_lo {B B':Nat} {w X:World} (k:∀g,g<B→g<B'∧X.heap[g]? =w.heap[g]?) {a:Option Addr} {len cap:Nat} {l:List (Int×Int)} (hr:Rs w a len cap l) (hl:Lo B a len):Rs X a len cap l∧Lo B' a len:=by
 refine⟨⟨hr.hlen,hr.hcap,hr.hmax,hr.hfit,fun i hi=> ?_⟩,fun hp g off e=>(k g (hl hp g off e)).1⟩
 obtain⟨b,off,e,h1,h2⟩:=hr.hcell i hi
 have hb:=(k b (hl (by omega) b off e)).2
 exact⟨b,off,e,by rw[World.cell?_of_block hb];exact h1,by rw[World.cell?_of_block hb];exact h2⟩
theorem PartB.kept {B B':Nat} {w X:World} (k:∀g,g<B→g<B'∧X.heap[g]? =w.heap[g]?) (kr:KR w X):∀(n:Nat) (v:Value) (p:PT),PartB B n w v p→PartB B' n X v p:=by
 intro n
 induction n with
 |zero=>intro v p h;exact h
 |succ n ih=>
  intro v p h
  obtain⟨kk,t,R,L,q,aR,cR,aL,cL,cs,e1,e2,h1,h2,h3,h4,h5,h6,h7⟩:=h
  obtain⟨h4',h5'⟩:=rs_lo k h4 h5
  exact⟨kk,t,R,L,q,aR,cR,aL,cL,cs,e1,e2,h1,h2,h3,h4',h5',h6.kept k,PtC.mono (fun v p hp=>ih v p hp) _ _ h7⟩
theorem PartB.up {B:Nat} {w:World}:∀(n m:Nat),n≤m→∀(v:Value) (p:PT),PartB B n w v p→PartB B m w v p:=by
 intro n
 induction n with
 |zero=>intro m _ v p h;exact h.elim
 |succ n ih=>
  intro m hm v p h
  cases m with
  |zero=>omega
  |succ m=>
   obtain⟨kk,t,R,L,q,aR,cR,aL,cL,cs,e1,e2,h1,h2,h3,h4,h5,h6,h7⟩:=h
   exact⟨kk,t,R,L,q,aR,cR,aL,cL,cs,e1,e2,h1,h2,h3,h4,h5,h6,PtC.mono (fun v p hp=>ih m (by omega) v p hp) _ _ h7⟩
theorem ty_lo {w:World} {a:Option Addr} (h:Ty w a) (n:Nat):Lo w.heap.size a n:=fun _ g off e=>by
 obtain⟨cs,fr,hg⟩:=h g off e
 exact(Array.getElem?_eq_some_iff.1 hg).1
theorem PartB.of {D:Nat→Prop} {w:World} (hD:∀g,D g→g<w.heap.size):∀(n:Nat) (v:Value) (p:PT),PartV D n w v p→PartB w.heap.size n w v p:=by
 intro n
 induction n with
 |zero=>intro v p h;exact h.elim
 |succ n ih=>
  intro v p h
  obtain⟨kk,t,R,L,q,aR,cR,aL,cL,cs,e1,e2,h1,h2,h3,h4,h5,h6,h7⟩:=h
  exact⟨kk,t,R,L,q,aR,cR,aL,cL,cs,e1,e2,h1,h2,h3,h4,ty_lo h5 _,h6.kept (fun g hg=>⟨hD g hg,rfl⟩),PtC.mono (fun v p hp=>ih v p hp) _ _ h7⟩
theorem PartB.fl {B b:Nat} {x:Option Nat} {w X:World} (f:Fl B b x w X) {cs:Array Value} {fr:Nat×Nat} (hb:w.heap[b]? =some (.cells cs 111 fr)) (hx:∀k,x=some k→∃cs fr,w.heap[k]? =some (.cells cs 43 fr)) (hB:B≤w.heap.size) {n:Nat} {v:Value} {p:PT} (h:PartB B n w v p):PartB B n X v p:=
 PartB.kept (fun g hg=>⟨hg,f.low g hg (by omega)⟩) (f.kr hb hx) n v p h
theorem MakV.re {D D':Nat→Prop} {w X:World} {B b m:Nat} {ns:List (List Int)} {d d':Int} {v:Value} {s s':Mk} {x:Option Nat} (h:MakV D w B b m ns d v s) (f:Fl B b x w X) (hx:∀k,x=some k→∃cs fr,w.heap[k]? =some (.cells cs 43 fr)) (hD:∀g,g<w.heap.size→D g→some g≠x∧D' g)
  (hc:X.heap[b]? =some (.cells (qw v m b d' s') 111)) (hk:∀g o,v.ownBlock=some g→w.heap[g]? =some o→X.heap[g]? =some o) (e:s'.made=s.made) (hd:0≤d'∧d'≤131072) (hl:0≤s'.left∧s'.left≤2147483647):MakV D' X B b m ns d' v s':=by
 obtain⟨h1,h2,h3,h4,h5,⟨h6,cs,own,hp⟩,h7⟩:=h
 refine⟨h1,h2,hd,hl,hc,⟨by rw[e];exact h6,cs,by rw[e];exact YZ own hk,by rw[e];exact PrC.kp (f.kp h5 hx hD) _ _ hp⟩,h7.keep fun o ho hno=> ?_⟩
 refine f.block m o ho (fun c=> ?_) (fun c=> ?_) (fun cs' fr=>hno _ _ _)
 ·subst c;rw[h5]at ho;injection ho with ho;exact hno _ _ _ ho.symm
 ·obtain⟨cs',fr,hg⟩:=hx m c.symm
  rw[hg]at ho;injection ho with ho;exact hno _ _ _ ho.symm
theorem Zv (w:World):∀k,(none:Option Nat)=some k→∃cs fr,w.heap[k]? =some (.cells cs 43 fr):=fun k e=>by cases e
theorem no_d {D:Nat→Prop} (w:World):∀g,g<w.heap.size→D g→some g≠none∧D g:=fun g _ h=>⟨by simp,h⟩
theorem MakV.made_ne {D:Nat→Prop} {w:World} {B b m:Nat} {ns:List (List Int)} {d:Int} {v:Value} {s:Mk} (h:MakV D w B b m ns d v s):∀g,v.ownBlock=some g→g≠b:=by
 intro g hg
 obtain⟨-,cs,fr,hc⟩:=h.made.block g hg
 exact yq hc h.cells (by decide)
theorem MakV.later {D:Nat→Prop} {w X:World} {B b m:Nat} {ns:List (List Int)} {d:Int} {v:Value} {s:Mk} (h:MakV D w B b m ns d v s) (k:Below w.heap.size w X):MakV D X B b m ns d v s:=
 h.re (x:=none) (Fl.of k) (Zv w) (no_d w) ((k.block b (Array.getElem?_eq_some_iff.1 h.cells).1).trans h.cells) (fun g o _ ho=>(k.block g (Array.getElem?_eq_some_iff.1 ho).1).trans ho) rfl h.d0 h.l0
theorem MakV.weak {D D':Nat→Prop} {w:World} {B b m:Nat} {ns:List (List Int)} {d:Int} {v:Value} {s:Mk} (h:MakV D w B b m ns d v s) (k:∀g,g<w.heap.size→D g→D' g):MakV D' w B b m ns d v s:=
 h.re (x:=none) (Fl.refl _ _ _ _) (Zv w) (fun g hg hd=>⟨by simp,k g hg hd⟩) h.cells (fun g o _ ho=>ho) rfl h.d0 h.l0
theorem MakV.lt {D:Nat→Prop} {w:World} {B b m:Nat} {ns:List (List Int)} {d:Int} {v:Value} {s:Mk} (h:MakV D w B b m ns d v s):b<w.heap.size:=(Array.getElem?_eq_some_iff.1 h.cells).1
theorem yV {W:World} {v:Value} {m b:Nat} {d:Int} {s:Mk} (h:W.heap[b]? =some (.cells (qw v m b d s) 111)):
  W.cell? ⟨b,0,none⟩=some v∧W.cell? ⟨b,1,none⟩=some (.map (some m))∧W.cell? ⟨b,11,none⟩=some (.int .i64 d)∧W.cell? ⟨b,12,none⟩=some (.int .i64 s.left)∧W.cell? ⟨b,13,none⟩=some (.int .i64 s.pl)∧W.cell? ⟨b,14,none⟩=some (.int .i64 s.why)∧
  W.frozen? ⟨b,0,none⟩=false∧W.frozen? ⟨b,11,none⟩=false∧W.frozen? ⟨b,12,none⟩=false∧W.frozen? ⟨b,13,none⟩=false∧W.frozen? ⟨b,14,none⟩=false:=by
 unfold qw at h
 refine⟨?_,?_,?_,?_,?_,?_,?_,?_,?_,?_,?_⟩<;>simp[World.cell?,World.frozen?,h]
theorem stop_zero {s:Mk} (h:s.why=0) (q y:Int):s.stop q y=⟨s.made,s.left,q,y⟩:=by unfold Mk.stop;rw[if_pos h]
theorem stop_kept {s:Mk} (h:s.why≠0) (q y:Int):s.stop q y=s:=by unfold Mk.stop;rw[if_neg h]
theorem Yx {D:Nat→Prop} {w:World} {B b m:Nat} {ns:List (List Int)} {d:Int} {v:Value} {s:Mk} (h:MakV D w B b m ns d v s) (q y:Int):
  Calls Tryz.prog 156 #[.pointer (some ⟨b,0,none⟩),.int .i64 q,.int .i64 y] w fun e w'=>e= .returned (.tuple #[])∧MakV D w' B b m ns d v (s.stop q y)∧Fl B b none w w':=by
 have hlt:=h.lt
 obtain⟨c0,c1,c11,c12,c13,c14,f0,f11,f12,f13,f14⟩:=yV h.cells
 by_cases hw:s.why=0
 ·have HM:=zk h
  rw[stop_zero hw]
  have hb:(s.why==0)=true:=by rw[hw];rfl
  clear h c0 c1 c11 c12 f0 f11 f12
  have HW:=zk hw
  clear hw
  go_enter Tryz.func156,Tryz.ntmps156
  go_wp2_with fail
  go_end0
  have hm:=zq HM
  have fl:Fl B b none w ((w.setCell ⟨b,13,none⟩ (.int .i64 q)).setCell ⟨b,14,none⟩ (.int .i64 y)):=(Fl.set (x:=none) w hm.hB 13 _).then (Fl.set (x:=none) _ hm.hB 14 _) (fun g e=>by cases e)
  refine⟨rfl,hm.re (x:=none) fl (Zv w) (no_d w) ?_ (fun g o hg ho=>zw (zw ho (hm.made_ne g hg) _) (hm.made_ne g hg) _) rfl hm.d0 hm.l0,fl⟩
  have h1:=heap_setCell_same w b 13 _ _ (.int .i64 q) hm.cells
  have h2:=heap_setCell_same _ b 14 _ _ (.int .i64 y) h1
  rw[h2]
  simp[qw]
 ·have HM:=zk h
  rw[stop_kept hw]
  have hb:(s.why==0)=false:=beq_eq_false_iff_ne.2 hw
  clear h hw c0 c1 c11 c12 f0 f11 f12
  go_enter Tryz.func156,Tryz.ntmps156
  go_wp2_with fail
  go_end0
  exact⟨rfl,zq HM,Fl.refl _ _ _ _⟩
theorem tooLong_l (a:Option Addr) (n c:Nat) (w:World):Calls Tryz.prog 123 #[.slice a n c] w fun e w'=>e= .returned (.bool (decide ((40:Int)<(n:Int))))∧w'=w:=by
 go_enter Tryz.func123,Tryz.ntmps123
 go_wp2_with fail
 go_ret
 exact⟨rfl,rfl⟩
theorem sym_info:(Tryz.prog.info? 43).map (fun i=>(i.zero,i.size,i.bytes))=some (some (.agg #[.int .i64 0,.slice none 0 0,.int .i64 0]),3,40):=by kernel_rfl
theorem new_sym (w:World) (n:Nat) (x0 x1 x2:Value) (hn:n=w.heap.size):∀(j:Nat) (u:Value),[x0,x1,x2][j]? =some u→(w.alloc (.cells #[x0,x1,x2] 43)).cell? ((⟨n,0,none⟩:Addr).add j)=some u:=by
 subst hn
 exact World.news_of_block (cs:= #[x0,x1,x2]) (t:=43) (fr:=(0,0)) (heap_alloc_new w _)
theorem LV.grow {w W X:World} {B:Nat} {v:Value} {l:List SY} (h:LV w B v l) (k:Below w.heap.size w W) {s:SY} {a:Option Addr} {c gg cap:Nat} (hr:Rs w a s.2.1.length c s.2.1) (hy:Ty w a) (hl:l.length≤40) {cs:List Value} (hs:SyC w l cs)
  (own:X.ownsRow B 43 3 (.slice (some ⟨gg,0,none⟩) (l.length+1) cap) (l.length+1) (cs++[.int .i64 s.1,.slice a s.2.1.length c,.int .i64 s.2.2])) (hg:W.grownBy X v.ownBlock):LV X B (.slice (some ⟨gg,0,none⟩) (l.length+1) cap) (l++[s])∧KR w X:=by
 have kr:KR w X:=(KR.of k).then (KR.grown hg fun g e=>by
  obtain⟨cs,fr,hc⟩:=h.block g e
  exact⟨cs,_,fr,(k.block g (Array.getElem?_eq_some_iff.1 hc).1).trans hc,by decide⟩)
 obtain⟨hr',hy'⟩:=vK kr hr hy
 exact⟨⟨by rw[List.length_append];simp;omega,_,by rw[List.length_append];exact own,SyC.snoc hr' hy' _ _ (SyC.kr kr _ _ hs)⟩,kr⟩
theorem fput_l {w:World} {B:Nat} {v:Value} {l:List SY} (h:LV w B v l) (hB:B≤w.heap.size) (k n:Int) (R:List (Int×Int)) (a:Option Addr) (c:Nat) (hr:Rs w a R.length c R) (hy:Ty w a):
  Calls Tryz.prog 157 #[v,.agg #[.int .i64 k,.slice a R.length c,.int .i64 n]] w fun e w'=>∃v',e= .returned v'∧LV w' B v' (ji l (k,R,n))∧w.grownBy w' v.ownBlock∧Nx w v v'∧KR w w':=by
 have HL:=zk h
 obtain⟨la,lc,rfl⟩:=h.form
 obtain⟨h41,cs,own,hs⟩:=h
 have CT:=zk (fun W=>tooLong_l la l.length lc W)
 have HS:=zk hs
 have HR:=zk hr
 have HY:=zk hy
 clear hr hy hs
 by_cases hl:40<l.length
 ·have hb:decide ((40:Int)<(l.length:Int))=true:=decide_eq_true (by omega)
  have hp:ji l (k,R,n)=l:=by unfold ji;rw[if_pos hl]
  rw[hb]at CT
  rw[hp]
  clear hp hb hl own
  go_enter Tryz.func157,Tryz.ntmps157
  go_wp2_with fail
  refine(zq CT _).mono ?_
  rintro e w1 ⟨rfl,hw1⟩
  subst hw1
  clear CT
  go_wp2_with fail
  go_ret
  exact⟨_,rfl,(zq HL).later (Below.new1 _),gb_of (Below.new1 _) _,Nx.refl _ _,KR.of (Below.new1 _)⟩
 ·have hb:decide ((40:Int)<(l.length:Int))=false:=decide_eq_false (by omega)
  have hp:ji l (k,R,n)=l++[(k,R,n)]:=by unfold ji;rw[if_neg hl]
  rw[hb]at CT
  rw[hp]
  have hl40:l.length≤40:=by omega
  clear hp hb hl
  obtain⟨ti,hi0,hz0,hz1,hz2⟩:=info_parts sym_info
  have HO:=own
  clear own
  go_enter Tryz.func157,Tryz.ntmps157
  go_wp2_with fail
  refine(zq CT _).mono ?_
  rintro e w1 ⟨rfl,hw1⟩
  subst hw1
  clear CT
  go_wp2_with (at_builtin;refine wpList_append_lies _ rfl _ _ 44 rfl B 43 ti _ 3 40 Tryz.underlying44 hi0 hz0 hz1 hz2 rfl (by omega) _ _ _ rfl ((HO.alloc _).alloc _) ⟨w.heap.size+1,0,none⟩ 1 1 [.int .i64 k,.slice a R.length c,.int .i64 n] rfl rfl (new_sym _ _ _ _ _ (by simp)) (by simp[Value.oneCell']) (by omega) (by unfold maxLen;omega) (by omega) (by simp;omega) (w.heap.size+2) (by simp) ?_;intro gg cap1 w6 hown1 hgrow hat hlt1)
  go_ret
  have BW:∀o1 o2,Below w.heap.size w ((w.alloc o1).alloc o2):=fun o1 o2=>(Below.new1 o1).alloc (by simp) o2
  obtain⟨q1,q2⟩:=(zq HL).grow (BW _ _) (s:=(k,R,n)) (zq HR) (zq HY) hl40 (zq HS) hown1 hgrow
  refine⟨.slice (some ⟨gg,0,none⟩) (l.length+1) cap1,rfl,q1,gb_then (BW _ _) hgrow,?_,q2⟩
  intro g hg
  simp only[Value.ownBlock,Option.some.injEq]at hg
  subst hg
  rcases hat with e|e
  ·exact .inl e
  ·exact .inr (by omega)
theorem SqC.at {D:Nat→Prop} {w:World}:∀(A:List (List SY)) (cs:List Value) (k:Nat),SqC D w A cs→k<A.length→∃c0 l,cs[k]? =some c0∧SymsV D w c0 l∧A.drop k=l::A.drop (k+1):=by
 intro A
 induction A with
 |nil=>intro cs k _ hk;simp at hk
 |cons l A ih=>
  intro cs k h hk
  obtain⟨c0,cs',rfl,hs,ht⟩:=h
  cases k with
  |zero=>exact⟨c0,l,rfl,hs,rfl⟩
  |succ k=>
   obtain⟨c1,l1,h1,h2,h3⟩:=ih cs' k ht (by simp at hk;omega)
   exact⟨c1,l1,by simpa using h1,h2,by simpa using h3⟩
theorem AltV.at {D:Nat→Prop} {w:World} {a:Option Addr} {c:Nat} {A:List (List SY)} (h:AltV D w (.slice a A.length c) A) (k:Nat) (hk:k<A.length):∃g off x cc l,a=some ⟨g,off,none⟩∧g<w.heap.size∧w.cell? ⟨g,off+k,none⟩=some (.slice x l.length cc)∧A.drop k=l::A.drop (k+1)∧SymsV D w (.slice x l.length cc) l:=by
 obtain⟨a',c',cs,e,hr,hs⟩:=h
 injection e with e1 e2 e3
 subst e1;subst e3
 obtain⟨c0,l,h1,h2,h3⟩:=SqC.at A cs k hs hk
 obtain⟨g,off,ha,hd,hc⟩:=hr.cell h1
 obtain⟨x,cc,cs',rfl,h4,h5⟩:=id h2
 exact⟨g,off,x,cc,l,ha,zJ hc,hc,h3,h2⟩
theorem AltV.form {D:Nat→Prop} {w:World} {v:Value} {A:List (List SY)} (h:AltV D w v A):∃a c,v= .slice a A.length c∧A.length≤c∧c≤maxLen:=by
 obtain⟨a,c,cs,e,hr,hs⟩:=h
 exact⟨a,c,e,hr.1,hr.2.1⟩
def ixL:List (List SY)→Nat→Int
 | [],_=> -1
 |l::A,i=>if 40<l.length then (i:Int)else ixL A (i+1)
theorem ixL_any:∀(A:List (List SY)) (i:Nat),decide ((0:Int)≤ixL A i)=A.any longB:=by
 intro A
 induction A with
 |nil=>intro i;rfl
 |cons l A ih=>
  intro i
  unfold ixL
  simp only[List.any_cons]
  by_cases h:40<l.length
  ·rw[if_pos h]
   simp[longB,h]
  ·rw[if_neg h,ih (i+1)]
   simp[longB,h]
theorem ixFunc_l {D:Nat→Prop} (a:Option Addr) (c:Nat) (A:List (List SY)) (w:World) (h:AltV D w (.slice a A.length c) A) (hl:A.length≤1000000):
  Calls Tryz.prog 167 #[.slice a A.length c,.func (.func 123) #[] #[]] w fun e w'=>e= .returned (.int .i64 (ixL A 0))∧w'=w:=by
 have hc:A.length≤c∧c≤maxLen:=by obtain⟨a',c',e,h1,h2⟩:=h.form;injection e with e1 e2 e3;subst e3;exact⟨h1,h2⟩
 obtain⟨hc1,hc2⟩:=hc
 unfold maxLen at hc2
 have HV:=zk h
 have CT:=zk (fun x n cc W=>tooLong_l x n cc W)
 clear h
 generalize hn:A.length=n at*
 have HN:=zk hn
 clear hn
 go_enter Tryz.func167,Tryz.ntmps167
 go_wp2_with fail
 go_loopw [8] (fun i wr=>∃k:Nat,k≤n∧i= .int .i64 (k:Int)∧Hid (ixL A 0=ixL (A.drop k) k)∧wr=w) (fun i _=>n-(intOf i).toNat)
 case atStart=>exact⟨0,Nat.zero_le _,rfl,rfl,rfl⟩
 case round=>
  obtain⟨k,hk,rfl,hA,hw⟩:=hrel
  subst hw
  by_cases hlt:k<n
  ·have HV1:=zq HV
   rw[←zq HN]at HV1
   obtain⟨g,off,x,cc,l,rfl,hg,hcell,hd,-⟩:=HV1.at k (by rw[zq HN];exact hlt)
   clear HV1
   by_cases h40:40<l.length
   ·have hb:decide ((40:Int)<(l.length:Int))=true:=decide_eq_true (by omega)
    have FIN:Hid (ixL A 0=(k:Int)):=by show _=_;rw[zq hA,hd];unfold ixL;rw[if_pos h40]
    clear hd h40 hA
    go_wp2_with fail
    refine(zq CT _ _ _ _).mono ?_
    rintro e w1 ⟨rfl,hw1⟩
    subst hw1
    clear CT
    rw[hb]
    go_wp2_with fail
    go_ret
    exact⟨ret_int (zq FIN).symm,rfl⟩
   ·have hb:decide ((40:Int)<(l.length:Int))=false:=decide_eq_false (by omega)
    have NXT:Hid (ixL A 0=ixL (A.drop (k+1)) (k+1)):=by show _=_;rw[zq hA,hd];conv=>lhs;unfold ixL;rw[if_neg h40]
    clear hd h40 hA
    go_wp2_with fail
    refine(zq CT _ _ _ _).mono ?_
    rintro e w1 ⟨rfl,hw1⟩
    subst hw1
    rw[hb]
    go_wp2_with fail
    go_roundw
    case rel=>exact⟨k+1,by omega,by simp,NXT,trivial⟩
    case measure=>simp only[intOf];omega
  ·obtain rfl:k=n:=by omega
   have FIN:Hid (ixL A 0= -1):=by
    show _=_
    rw[zq hA,List.drop_eq_nil_of_le (by rw[zq HN];exact Nat.le_refl _)]
    rfl
   go_wp2_with fail
   go_ret
   exact⟨ret_int (zq FIN).symm,rfl⟩
theorem contF_l {D:Nat→Prop} (a:Option Addr) (c:Nat) (A:List (List SY)) (w:World) (h:AltV D w (.slice a A.length c) A) (hl:A.length≤1000000):
  Calls Tryz.prog 122 #[.slice a A.length c,.func (.func 123) #[] #[]] w fun e w'=>e= .returned (.bool (A.any longB))∧w'=w:=by
 have C:=zk (ixFunc_l a c A w h hl)
 rw[←ixL_any A 0]
 clear h
 generalize ixL A 0=r at*
 generalize A.length=n at*
 go_enter Tryz.func122,Tryz.ntmps122
 go_wp2_with fail
 refine(zq C).mono ?_
 rintro e w1 ⟨rfl,hw1⟩
 subst hw1
 clear C
 go_wp2_with fail
 go_ret
 exact⟨rfl,rfl⟩
theorem ffits_l {D:Nat→Prop} (v:Value) (A:List (List SY)) (w:World) (h:AltV D w v A):
  Calls Tryz.prog 78 #[v] w fun e w'=>e= .returned (.bool (fitsB A))∧w'=w:=by
 obtain⟨a,c,rfl,-,-⟩:=h.form
 have C:=zk (fun h8:A.length≤8=>contF_l a c A w h (by omega))
 unfold fitsB
 clear h
 generalize A.any longB=r at*
 generalize A.length=n at*
 by_cases h1:1≤n
 ·by_cases h8:n≤8
  ·have b1:decide ((1:Int)≤(n:Int))=true:=decide_eq_true (by omega)
   have b8:decide ((n:Int)≤8)=true:=decide_eq_true (by omega)
   have C:=zk (zq C h8)
   rw[decide_eq_true h1,decide_eq_true h8]
   go_enter Tryz.func78,Tryz.ntmps78
   go_wp2_with fail
   refine(zq C).mono ?_
   rintro e w1 ⟨rfl,hw1⟩
   subst hw1
   clear C
   go_wp2_with fail
   go_ret
   exact⟨by simp,rfl⟩
  ·have b1:decide ((1:Int)≤(n:Int))=true:=decide_eq_true (by omega)
   have b8:decide ((n:Int)≤8)=false:=decide_eq_false (by omega)
   rw[decide_eq_true h1,decide_eq_false h8]
   clear C
   go_enter Tryz.func78,Tryz.ntmps78
   go_wp2_with fail
   go_ret
   exact⟨rfl,rfl⟩
 ·have b1:decide ((1:Int)≤(n:Int))=false:=decide_eq_false (by omega)
  rw[decide_eq_false h1]
  clear C
  go_enter Tryz.func78,Tryz.ntmps78
  go_wp2_with fail
  go_ret
  exact⟨rfl,rfl⟩
theorem own_set {w:World} {B:Nat} {t:TypeId} {sz:Nat} {v:Value} {n:Nat} {cs:List Value} (h:w.ownsRow B t sz v n cs) {g:Nat} (hg:v.ownBlock=some g) {j:Nat} (hj:j<cs.length) (u:Value):(w.setCell ⟨g,j,none⟩ u).ownsRow B t sz v n (cs.set j u):=by
 refine⟨by rw[List.length_set];exact h.1,?_⟩
 rcases h.2 with ⟨rfl,_⟩|⟨g',cap,cur,rfl,hb,hc,hn,hm,hs,ht⟩
 ·simp[Value.ownBlock]at hg
 ·simp[Value.ownBlock]at hg
  subst hg
  have:=heap_setCell_same w g' j _ _ u hc
  refine .inr ⟨g',cap,cur.setIfInBounds j u,rfl,hb,this,hn,hm,by simp[hs],?_⟩
  rw[←ht]
  simp[List.take_set]
theorem own_cell {w:World} {B:Nat} {t:TypeId} {sz:Nat} {v:Value} {n:Nat} {cs:List Value} (h:w.ownsRow B t sz v n cs) {j:Nat} {u:Value} (hj:cs[j]? =some u):∃g,v.ownBlock=some g∧w.cell? ⟨g,j,none⟩=some u∧w.frozen? ⟨g,j,none⟩=false:=by
 rcases h.2 with ⟨rfl,h0⟩|⟨g',cap,cur,rfl,hb,hc,hn,hm,hs,ht⟩
 ·have:cs=[]:=List.eq_nil_of_length_eq_zero (by rw[h.1,h0];simp)
  rw[this]at hj;simp at hj
 ·refine⟨g',rfl,?_,by simp[World.frozen?,hc]⟩
  have hjl:j<cs.length:=(List.getElem?_eq_some_iff.1 hj).1
  rw[←ht,List.getElem?_take_of_lt (by rw[h.1]at hjl;omega)]at hj
  simp only[World.cell?,hc]
  simpa using hj
theorem PrC.at {D:Nat→Prop} {w:World}:∀(l:List PRD) (cs:List Value) (n:Nat),PrC D w l cs→n<l.length→∃c0,cs[3*n]? =some c0:=by
 intro l cs n h hn
 have:=PrC.len l cs h
 exact⟨cs[3*n]'(by omega),List.getElem?_eq_getElem (by omega)⟩
theorem fin_yes {s:Mk} {n:Nat} {q:Int} {A:List (List SY)} (h:fitsB A=true):s.fin n q A=⟨setA s.made n A,s.left,s.pl,s.why⟩:=by unfold Mk.fin;rw[if_pos h]
theorem fin_no {s:Mk} {n:Nat} {q:Int} {A:List (List SY)} (h:fitsB A=false):s.fin n q A=⟨setA (s.stop q 7).made n A,(s.stop q 7).left,(s.stop q 7).pl,(s.stop q 7).why⟩:=by unfold Mk.fin;rw[h];rfl
theorem MakV.put {D:Nat→Prop} {w:World} {B b m:Nat} {ns:List (List Int)} {d:Int} {v:Value} {s:Mk} (h:MakV D w B b m ns d v s) {n g:Nat} (hn:n<s.made.length) (hg:v.ownBlock=some g) {av:Value} {A:List (List SY)} (ha:AltV D w av A):
  MakV D (w.setCell ⟨g,3*n,none⟩ av) B b m ns d v ⟨setA s.made n A,s.left,s.pl,s.why⟩∧Fl B b none w (w.setCell ⟨g,3*n,none⟩ av):=by
 have hgb:=h.made_ne g hg
 obtain⟨hBg,gc,gf,hgc⟩:=h.made.block g hg
 have fl:Fl B b none w (w.setCell ⟨g,3*n,none⟩ av):=by
  refine⟨rfl,rfl,rfl,by simp,fun k h1 h2=>Below.heap_setCell w ⟨g,3*n,none⟩ av k (by simp only;omega),fun k o h1 h2 _ h4=>zw h1 (fun c=> ?_) av⟩
  subst c
  rw[hgc]at h1;injection h1 with h1;exact h4 _ _ h1.symm
 have kp:Kp D D w (w.setCell ⟨g,3*n,none⟩ av):=fl.kp h.cells (Zv w) (no_d w)
 obtain⟨h1,h2,h3,h4,h5,⟨h6,cs,own,hp⟩,h7⟩:=h
 have hlen:=PrC.len _ _ hp
 refine⟨⟨h1,h2,h3,h4,zw h5 (Ne.symm hgb) _,⟨by rw[setA_len];exact h6,cs.set (3*n) av,by rw[setA_len];exact own_set own hg (by omega) av,PrC.set (ha.kp kp) _ _ _ hn (PrC.kp kp _ _ hp)⟩,h7.keep fun o ho hno=> ?_⟩,fl⟩
 refine fl.block m o ho (fun c=> ?_) (by simp) (fun cs' fr=>hno _ _ _)
 subst c;rw[h5]at ho;injection ho with ho;exact hno _ _ _ ho.symm
theorem stop_made (s:Mk) (q y:Int):(s.stop q y).made=s.made:=by unfold Mk.stop;split<;>rfl
theorem ffin_l {D:Nat→Prop} {w:World} {B b m:Nat} {ns:List (List Int)} {d:Int} {v:Value} {s:Mk} (h:MakV D w B b m ns d v s) (n:Nat) (hn:n<s.made.length) (k:Int) (S:ByteArray) (a:Option Addr) (n1 c:Nat) (a':Option Addr) (n' c':Nat) (q:Int) (av:Value) (A:List (List SY)) (ha:AltV D w av A) (hl:A.length≤1000000):
  Calls Tryz.prog 112 #[.pointer (some ⟨b,0,none⟩),.int .i64 (n:Int),.agg #[.int .i64 k,.string S,.slice a n1 c,.slice a' n' c',.int .i64 q],av] w fun e w'=>e= .returned (.tuple #[])∧MakV D w' B b m ns d v (s.fin n q A)∧Fl B b none w w':=by
 have B1:∀o,Below w.heap.size w (w.alloc o):=fun o=>Below.new1 o
 have CF:=zk (fun o=>ffits_l av A (w.alloc o) (ha.kp (Kp.of (B1 o))))
 have CS:=zk (fun o=>Yx (h.later (B1 o)) q 7)
 have HM:=zk h
 have HA:=zk ha
 have h60:=h.made.1
 have hlt:=h.lt
 obtain⟨va,vc,rfl⟩:=h.made.form
 have hvm:s.made.length≤vc∧vc≤maxLen:=by
  obtain⟨-,cs,own,-⟩:=h.made
  rcases own.2 with ⟨e,h0⟩|⟨g,cap,cur,e,hb,hg,h1,h2,-⟩
  ·omega
  ·injection e with e1 e2 e3;subst e3;exact⟨h1,h2⟩
 obtain⟨hv1,hv2⟩:=hvm
 unfold maxLen at hv2
 obtain⟨g,hg⟩:∃g,va=some ⟨g,0,none⟩:=by
  obtain⟨-,cs,own,-⟩:=h.made
  rcases own.2 with ⟨e,h0⟩|⟨g,cap,cur,e,-⟩
  ·omega
  ·injection e with e1 e2 e3;exact⟨g,e1⟩
 subst hg
 obtain⟨av1,av2,rfl,-,-⟩:=ha.form
 have C0:∀o,(w.alloc o).cell? ⟨b,0,none⟩=some (.slice (some ⟨g,0,none⟩) s.made.length vc):=fun o=>(yV (h.later (B1 o)).cells).1
 have CG:∀o,∃u,(w.alloc o).cell? ⟨g,3*n,none⟩=some u∧(w.alloc o).frozen? ⟨g,3*n,none⟩=false:=fun o=>by
  obtain⟨-,cs,own,hp⟩:=(h.later (B1 o)).made
  obtain⟨u,hu⟩:=PrC.at _ _ n hp hn
  obtain⟨g',h1,h2,h3⟩:=own_cell own hu
  simp only[Value.ownBlock,Option.some.injEq]at h1
  subst h1
  exact⟨u,h2,h3⟩
 clear h ha
 cases hf:fitsB A with
 |true=>
  have FIN:Hid (s.fin n q A=⟨setA s.made n A,s.left,s.pl,s.why⟩):=fin_yes hf
  rw[hf]at CF
  clear hf CS
  obtain⟨u0,cg,zg⟩:=CG (.cells #[.int .i64 k,.string S,.slice a n1 c,.slice a' n' c',.int .i64 q] 149)
  clear CG
  have n3:n*3=3*n:=by omega
  go_enter Tryz.func112,Tryz.ntmps112
  go_wp2_with fail
  refine(zq CF _).mono ?_
  rintro e w1 ⟨rfl,hw1⟩
  subst hw1
  clear CF
  go_wp2_with fail
  go_end0
  have hm:=(zq HM).later (B1 (.cells #[.int .i64 k,.string S,.slice a n1 c,.slice a' n' c',.int .i64 q] 149))
  obtain⟨p1,p2⟩:=hm.put hn (g:=g) rfl ((zq HA).kp (Kp.of (B1 _)))
  rw[zq FIN]
  exact⟨rfl,p1,(Fl.of (B1 _)).then p2 (fun g e=>by cases e)⟩
 |false=>
  have FIN:Hid (s.fin n q A=⟨setA (s.stop q 7).made n A,(s.stop q 7).left,(s.stop q 7).pl,(s.stop q 7).why⟩):=fin_no hf
  rw[hf]at CF
  have hn2:n<(s.stop q 7).made.length:=by rw[stop_made];exact hn
  have hml:(s.stop q 7).made.length=s.made.length:=by rw[stop_made]
  clear hf CG C0
  have n3:n*3=3*n:=by omega
  generalize hs2:s.stop q 7=s2 at*
  clear hs2
  go_enter Tryz.func112,Tryz.ntmps112
  go_wp2_with fail
  refine(zq CF _).mono ?_
  rintro e w1 ⟨rfl,hw1⟩
  subst hw1
  clear CF
  go_wp2_with fail
  refine(zq CS _).mono ?_
  rintro e w2 ⟨rfl,hm2,f2⟩
  clear CS
  have C0:w2.cell? ⟨b,0,none⟩=some (.slice (some ⟨g,0,none⟩) s.made.length vc):=(yV hm2.cells).1
  have hlt2:=hm2.lt
  obtain⟨u0,cg,zg⟩:∃u,w2.cell? ⟨g,3*n,none⟩=some u∧w2.frozen? ⟨g,3*n,none⟩=false:=by
   obtain⟨-,cs,own,hp⟩:=hm2.made
   obtain⟨u,hu⟩:=PrC.at _ _ n hp hn2
   obtain⟨g',h1,h2,h3⟩:=own_cell own hu
   simp only[Value.ownBlock,Option.some.injEq]at h1
   subst h1
   exact⟨u,h2,h3⟩
  have HM2:=zk hm2
  have HF2:=zk f2
  have HN2:=zk hn2
  have HA2:Hid (AltV D w2 (.slice av1 A.length av2) A):=by
   have k1:=(zq HM).later (B1 (.cells #[.int .i64 k,.string S,.slice a n1 c,.slice a' n' c',.int .i64 q] 149))
   exact((zq HA).kp (Kp.of (B1 _))).kp (f2.kp k1.cells (Zv _) (no_d _))
  clear hm2 f2 hn2 hml
  go_wp2_with fail
  go_end0
  obtain⟨p1,p2⟩:=(zq HM2).put (zq HN2) (g:=g) rfl (zq HA2)
  rw[zq FIN]
  exact⟨rfl,p1,((Fl.of (B1 _)).then (zq HF2) (fun g e=>by cases e)).then p2 (fun g e=>by cases e)⟩
theorem rs_cells {w:World} {g off len cap:Nat} {l:List (Int×Int)} (h:Rs w (some ⟨g,off,none⟩) len cap l):∀(j:Nat) (u:Value),(yx l)[j]? =some u→w.cell? ((⟨g,off,none⟩:Addr).add j)=some u:=by
 intro j u hu
 have hj:j<l.length*2:=by rw[←yo];exact(List.getElem?_eq_some_iff.1 hu).1
 rw[Addr.add_lit]
 obtain⟨i,hi⟩:∃i,j=i*2∨j=i*2+1:=⟨j/2,by omega⟩
 obtain⟨g',off',e,h1,h2⟩:=h.hcell i (by have:=h.hlen;omega)
 injection e with e
 injection e with e1 e2
 subst e1;subst e2
 obtain⟨k1,k2⟩:=cellsL_at l i (by omega)
 rcases hi with rfl|rfl
 ·rw[k1]at hu
  injection hu with hu
  rw[←hu];exact h1
 ·rw[k2]at hu
  injection hu with hu
  rw[←hu];exact h2
theorem one_cells (l:List (Int×Int)):∀u∈yx l,u.oneCell'=true:=by
 intro u hu
 unfold yx at hu
 rw[List.mem_flatMap]at hu
 obtain⟨r,_,hr⟩:=hu
 simp at hr
 rcases hr with rfl|rfl<;>rfl
theorem cloneR_l (a:Option Addr) (c:Nat) (R:List (Int×Int)) (w:World) (h:Rs w a R.length c R) (hs:R.length≤1000000):
  Calls Tryz.prog 158 #[.slice a R.length c] w fun e w'=>∃a' c',e= .returned (.slice a' R.length c')∧Rs w' a' R.length c' R∧Ty w' a'∧Below w.heap.size w w':=by
 cases a with
 |none=>
  have hR:R=[]:=by
   cases R with
   |nil=>rfl
   |cons r R=>
    obtain⟨b,off,e,-⟩:=h.hcell 0 (by simp)
    cases e
  subst hR
  clear h
  have heq:∀W,(binOp .eql 39 (.slice none 0 c) (.slice none 0 0)).run Tryz.prog W= .ok (.bool true) W:=fun W=>by kernel_rfl
  go_enter Tryz.func158,Tryz.ntmps158
  go_wp2_with fail
  go_ret
  exact⟨none,0,rfl,Rs.nil w,Ty.nil w,Below.refl _ _⟩
 |some ad=>
  obtain⟨i0,hi0,hz0,hz1,hz2⟩:=info_parts infoRg
  have HN:∀o,∀(j:Nat) (u:Value),(yx R)[j]? =some u→(w.alloc o).cell? (ad.add j)=some u:=by
   intro o j u hu
   cases R with
   |nil=>simp[yx]at hu
   |cons r R=>
    obtain⟨b,off,e,-⟩:=h.hcell 0 (by simp)
    injection e with e
    subst e
    exact rs_cells (h.later (Below.new1 o) (Nat.le_refl _)) j u hu
  have heq:∀W,(binOp .eql 39 (.slice (some ad) R.length c) (.slice none 0 0)).run Tryz.prog W= .ok (.bool false) W:=fun W=>by kernel_rfl
  have HF:=zk h.hfit
  have hcl:=yo R
  clear h
  have HO:∀w:World,(w.alloc (.cells #[] 51)).ownsRow w.heap.size 51 2 (.slice (some ⟨w.heap.size,0,none⟩) 0 0) 0 []:=fun w=>World.ownsRow_made w #[] 0 (Nat.le_refl _) (Nat.zero_le _) rfl
  go_enter Tryz.func158,Tryz.ntmps158
  go_wp2_with (at_builtin;refine wpList_append_own _ rfl _ _ 39 rfl w.heap.size 51 i0 _ 2 16 Tryz.underlying39 hi0 hz0 hz1 hz2 rfl (by omega) _ _ _ rfl (HO w) ad R.length c (yx R) rfl hcl (HN _) (one_cells R) (by unfold maxLen;omega) (by omega) (by simp) ?_;intro v' w6 hown1 hgrow hnil)
  go_ret
  rw[Nat.zero_add,List.nil_append]at hown1
  have ow:Ow w6 w.heap.size v' R:=hown1
  obtain⟨a',c',rfl,hr⟩:=ow.rs (zq HF)
  refine⟨a',c',rfl,hr,?_,?_⟩
  ·intro b off e
   subst e
   obtain⟨cs',hc⟩:=ju hown1 b rfl
   exact⟨cs',_,hc⟩
  ·have hg2:(w.alloc (.cells #[] 51)).grownBy w6 (some w.heap.size):=hgrow
   exact(Below.new1 _).grown hg2 (by simp) (fun k hk=>by injection hk;omega)
def LfR (D:Nat→Prop) (B b m:Nat) (ns:List (List Int)) (d:Int) (v:Value) (w:World) (r:Mk×List SY) (e:Ending) (w':World):Prop:=
 ∃v',e= .returned v'∧LV w' B v' r.2∧Mak (fun k=>D k∧some k≠v'.ownBlock) w' B b m ns d r.1∧Fl B b v.ownBlock w w'∧Nx w v v'
theorem Yi {D:Nat→Prop} {w W X:World} {B b m:Nat} {ns:List (List Int)} {d:Int} {v v':Value} {mv:Value} {s:Mk} {l:List SY} (hL:LV w B v l) (hb:∃cs fr,w.heap[b]? =some (.cells cs 111 fr)) (h:MakV (fun k=>D k∧some k≠v.ownBlock) W B b m ns d mv s) (fW:Fl B b none w W) {l':List SY} (lv:LV X B v' l') (g:W.grownBy X v.ownBlock) (nx:Nx W v v'):
  LfR D B b m ns d v w (s,l') (.returned v') X:=by
 obtain⟨bc,bf,hb⟩:=hb
 have blk:∀k,v.ownBlock=some k→∃cs fr,W.heap[k]? =some (.cells cs 43 fr):=fun k hk=>by
  obtain⟨cs,fr,hc⟩:=hL.block k hk
  exact⟨cs,fr,fW.block k _ hc (yq hc hb (by decide)) (by simp) (fun c2 f2 e=>by injection e with _ e;exact absurd e (by decide))⟩
 have fX:Fl B b v.ownBlock W X:=Fl.grown g (fun k hk=>(hL.lt k hk).1)
 have hbv:some b≠v.ownBlock:=fun e=>by
  obtain⟨cs,fr,hc⟩:=hL.block b e.symm
  exact yq hc hb (by decide) rfl
 refine⟨v',rfl,lv,⟨mv,h.re (x:=v.ownBlock) fX blk ?_ ?_ ?_ rfl h.d0 h.l0⟩,fW.none.then fX (fun g e=> .inl e),?_⟩
 ·intro k hk hd
  refine⟨hd.2,hd.1,fun e=> ?_⟩
  rcases nx k e.symm with c|c
  ·exact hd.2 c.symm
  ·omega
 ·rw[g.block b h.lt hbv];exact h.cells
 ·intro k o hk ho
  rw[g.block k (Array.getElem?_eq_some_iff.1 ho).1 (fun e=> ?_)]
  ·exact ho
  ·obtain⟨-,c1,f1,h1⟩:=h.made.block k hk
   obtain⟨c2,f2,h2⟩:=blk k e.symm
   exact yq h1 h2 (by decide) rfl
 ·intro k hk
  rcases nx k hk with c|c
  ·exact .inl c
  ·exact .inr (Nat.le_trans fW.size c)
end Go.Proofs.YtcblkmlcbedomaaGreatDoor.F
