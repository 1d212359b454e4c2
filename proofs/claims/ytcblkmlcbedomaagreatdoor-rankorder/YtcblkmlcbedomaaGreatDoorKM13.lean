/- Parts of the proof that stand ahead of it (K 13). -/
import Derived.Test.YtcblkmlcbedomaaGreatDoorTM33
import Derived.Test.YtcblkmlcbedomaaGreatDoorKM10
import Derived.Test.YtcblkmlcbedomaaGreatDoorKM12
import Derived.Test.YtcblkmlcbedomaaGreatDoorKM6
set_option linter.unusedVariables false
set_option linter.unusedSimpArgs false
set_option maxRecDepth 20000
set_option maxHeartbeats 16000000
namespace Go.Proofs.YtcblkmlcbedomaaGreatDoor.Nl
open Go.RowKit Go.Shelf Go.Proofs.YtcblkmlcbedomaaGreatDoor.T Go.Proofs.YtcblkmlcbedomaaGreatDoor.R Go.Proofs.YtcblkmlcbedomaaGreatDoor.F
theorem lef_is {P:List PRD} {E:List Int} (hE:∀x,x∈E↔isN P x):∀l:List SY,XW E l=lefL (nuL P) l:=by
 intro l
 induction l with
 |nil=>rfl
 |cons s l ih=>
  unfold XW lefL
  by_cases h2:s.1=2
  ·rw[if_pos h2,if_pos h2,ih]
   by_cases hn:s.2.2∈E
   ·rw[if_pos hn,if_pos (nulS_nu.2 ⟨h2,(hE _).1 hn⟩)]
   ·rw[if_neg hn,if_neg (fun c=>hn ((hE _).2 (nulS_nu.1 c).2))]
  ·rw[if_neg h2,if_neg h2]
theorem InV.nil (w:World) (base:Nat):InV w base (.slice none 0 0) []:=World.ownsRow_nil w base _ _
structure LfI (w:World) (b bl k1:Nat) (E pre0:List Int) (v:Value) (l:List SY) (ds:List Deferred) (pre:List Int) (W:World):Prop where
 emp:SetV W b E
 set:SetV W bl (pre0++pre)
 sy:SyL W w.heap.size v l
 bx:W.heap[bl+1]? =some (boxS bl)
 c1:W.heap[k1]? =some (boxS b)
 c2:W.heap[k1+1]? =some (boxY v)
 bel:Below w.heap.size w W
 mrk:Marks (bl+2) W ds
 ml:∀D,markD D∈ds→D<k1
theorem LfI.below {w W W':World} {b bl k1:Nat} {E pre0 pre:List Int} {v:Value} {l:List SY} {ds:List Deferred} (h:LfI w b bl k1 E pre0 v l ds pre W) (k:Below (k1+2) W W') (hb:b<bl) (hbl:bl+2≤k1) (hw:w.heap.size≤bl):LfI w b bl k1 E pre0 v l ds pre W':=
 ⟨h.emp.later k (by omega),h.set.later k (by omega),h.sy.later (k.mono (by omega)),(k.block _ (by omega)).trans h.bx,(k.block _ (by omega)).trans h.c1,(k.block _ (by omega)).trans h.c2,h.bel.trans (k.mono (by omega)),
  h.mrk.keep ds fun D hD hW=>(k.block D (by have:=h.ml D hD;omega)).trans hW,h.ml⟩
theorem LfI.put {w W W':World} {b bl k1:Nat} {E pre0 pre:List Int} {v:Value} {l:List SY} {ds:List Deferred} {x:Int} (h:LfI w b bl k1 E pre0 v l ds pre W) (hs:SetV W' bl ((pre0++pre)++[x])) (k:Bo bl W W') (hb:b<bl) (hbl:bl+2≤k1) (hw:w.heap.size≤bl) (hW:k1+2≤W.heap.size):LfI w b bl k1 E pre0 v l ds (pre++[x]) W':=by
 have kb:∀g,g<W.heap.size→g≠bl→W'.heap[g]? =W.heap[g]? :=fun g h1 h2=>k.block g h1 (fun e=>h2 (by injection e))
 have kB:Below w.heap.size W W':=⟨k.os,k.tape,k.output,k.size,fun i hi=>kb i (by omega) (by omega)⟩
 exact⟨h.emp.keep (kb _ (by omega) (by omega)),by rw[←List.append_assoc];exact hs,h.sy.later kB,(kb _ (by omega) (by omega)).trans h.bx,(kb _ (by omega) (by omega)).trans h.c1,(kb _ (by omega) (by omega)).trans h.c2,h.bel.trans kB,
  h.mrk.keep ds fun D hD hX=>(kb D (by have:=h.ml D hD;omega) (by have:=(h.mrk.lt ds D hD).1;omega)).trans hX,h.ml⟩
theorem InV.off {W X:World} {base base':Nat} {v:Value} {L:List Int} (h:InV W base v L) (hb:base'≤base) (k:∀(k:Nat) (o:Obj),W.heap[k]? =some o→(∀x,o≠Obj.deferred x)→X.heap[k]? =some o):InV X base' v L:=by
 refine⟨h.1,?_⟩
 rcases h.2 with hn|⟨g,cap,cur,e,h1,hg,rest⟩
 ·exact .inl hn
 ·exact .inr ⟨g,cap,cur,e,Nat.le_trans hb h1,k g _ hg (fun x c=>by cases c),rest⟩
theorem box_cell {W:World} {k b:Nat} (h:W.heap[k]? =some (boxS b)):W.cell? ⟨k,0,none⟩=some (.map (some b)):=by simp[World.cell?,h]
def lfT (g0:Value) (i:Int) (wz b bz:Nat) (sP:Value) (nP:Int) (pp sA:Value) (nA k:Int) (u8 u9 u36 u37 u38 u39 u40 u41 u42 u43 u44 u45 u46:Value):Array Value:=
 #[g0,.int .i64 i,.pointer (some ⟨wz,0,none⟩),undef,.slice none 0 0,.map (some b),.pointer (some ⟨bz+1,0,none⟩),undef,u8,u9,g0,.bool true,.bool false,.bool false,.int .i64 i,.bool false,.bool false,.bool false,.int .i64 i,
  .pointer (some ⟨wz,0,none⟩),sP,.int .i64 nP,.bool false,.bool false,.pointer (some ⟨wz,0,none⟩),sP,.map (some b),.map (some bz),.pointer (some ⟨wz,0,none⟩),sP,.int .i64 i,pp,pp,sA,.int .i64 nA,.int .i64 k,u36,u37,u38,u39,u40,u41,u42,u43,u44,u45,u46,undef,undef,undef]
def LfL (w w2:World) (b:Nat) (E:List Int) (A:List (List SY)) (g0:Value) (i:Int) (sP:Value) (nP:Int) (pp sA:Value) (a':Act) (W':World):Prop:=
 ∃(k:Nat) (ki:Int) (ds:List Deferred) (pre:List Int) (u8 u9 u36 u37 u38 u39 u40 u41 u42 u43 u44 u45 u46:Value),
  ki=(k:Int)∧a'={tmps:=lfT g0 i w.heap.size b w2.heap.size sP nP pp sA (A.length:Nat) ki u8 u9 u36 u37 u38 u39 u40 u41 u42 u43 u44 u45 u46,defers:=ds}∧k≤A.length∧Hid (pre=(A.take k).flatMap (XW E))∧pre.length≤40*k∧
  Hid (SetV W' b E)∧Hid (SetV W' w2.heap.size pre)∧Hid (W'.heap[w2.heap.size+1]? =some (boxS w2.heap.size))∧Hid (Below w.heap.size w W')∧w2.heap.size+2≤W'.heap.size∧Hid (Marks (w2.heap.size+2) W' ds)
attribute [local go_sem] Oper.semAt_some
theorem nLefts_yes (v:Value) (g:GR) (i:Nat) (p:PRD) (w:World) (h:GrM w v g) (hg:gramB g.1=true) (hi:g.1[i]? =some p):
  Calls Tryz.prog 24 #[v,.int .i64 (i:Int)] w fun e w'=>LfR w g (i:Int) e w':=by
 have CM:=zk (fun W (bW:Below w.heap.size w W)=>fMayM_l v g W (h.later bW))
 obtain⟨a,c,aK,cK,rfl,hp,-⟩:=id h
 obtain⟨P,K⟩:=g
 simp only at CM hp hg hi⊢
 rw[hg]at CM
 obtain⟨-,h60,h8,h40,ok,hf⟩:=gram_ok hg
 have hmm:= @run_makeMap Tryz.prog
 have hx:∀args w,(callFunc 82 args).run Tryz.prog w= .ok (.enter 82 args) w:=enters_of Tryz.func82 (by kernel_rfl) rfl
 have hpr:=hp.prl hf
 have HP:=zk hpr
 have CE:=zk (fun W (bW:Below w.heap.size w W)=>emptyOf_l w.heap.size _ P W ((zq HP).later bW) bW.size h60 h8 ok)
 have hiL:=(List.getElem?_eq_some_iff.1 hi).1
 have hmem:=List.mem_of_getElem? hi
 have h8p:=h8 p hmem
 have H40:=zk (h40 p hmem)
 have HFT:=zk (hf p hmem)
 have HLP:Hid (∀x,leftP (P,K) (i:Int) x↔∃a∈p.1,x∈lefL (nuL P) a):=by
  intro x
  constructor
  ·rintro⟨-,j,q,al,e,hq,ha,hx⟩
   obtain rfl:i=j:=by omega
   simp only at hq
   rw[hi]at hq
   injection hq with hq
   subst hq
   exact⟨al,ha,hx⟩
  ·rintro⟨al,ha,hx⟩
   exact⟨hg,i,p,al,rfl,hi,ha,hx⟩
 obtain⟨a0,c0,e0,hc1,hc2,h3⟩:=hpr
 injection e0 with e1 e2 e3
 subst e1;subst e3
 obtain⟨gp,off,u,m,x,n',kk,rfl,hgp,q0,q1,q2,hA⟩:=h3 i p hi
 obtain⟨aA,cA,rfl,hA1,hA2,-⟩:=id hA
 have HA:=zk hA
 have Q0:=fun W (bW:Below w.heap.size w W)=>(bW.cell (p:=⟨gp,off+3*i,none⟩) hgp).trans q0
 unfold maxLen at hc2 hA2
 clear h hp hg h60 h8 h40 ok hf h3 e2 hA hi hmem HP
 have bn:decide ((i:Int)<0)=false:=decide_eq_false (by omega)
 have bm:decide ((P.length:Int)≤(i:Int))=false:=decide_eq_false (by omega)
 have i3:i*3=3*i:=by omega
 generalize K.length=nK at*
 refine(callsIn_wide (n:=8)).1 ?_
 refine callsIn_of_wp_marks Tryz.func24 rfl trivial ?_ rfl
 simp only[Tryz.ntmps24,List.size_toArray,List.length_cons,List.length_nil,Nat.reduceAdd,Nat.reduceSub,Array.replicate_succ,Array.replicate_zero,List.push_toArray,List.append_toArray,List.nil_append,List.cons_append]
 gi_wp2_with fail
 refine⟨trivial,?_⟩
 refine(callsIn_wide.2 (zq CM _ (Below.new1 _))).mono ?_
 rintro e w1 ⟨rfl,b1⟩
 clear CM
 have hk1:=nkept b1
 obtain⟨y0,y1,-,-⟩:=ncells2 hk1
 have B1:=zk (Xk (Below.new1 _) b1)
 clear b1
 gi_wp2_with fail
 refine⟨trivial,?_⟩
 refine(callsIn_wide.2 (zq CE _ (zq B1))).mono ?_
 rintro e w2 ⟨b,E,rfl,hS,hE,hwb,b2⟩
 clear CE y0 y1
 have hk2:=(b2.block _ (Array.getElem?_eq_some_iff.1 hk1).1).trans hk1
 have hlt2:=(Array.getElem?_eq_some_iff.1 hk2).1
 have bz:Below w2.heap.size w2 ((w2.alloc (.map #[] 0)).alloc (boxS w2.heap.size)):=(Below.new1 _).alloc (by simp) _
 have hk3:=(bz.block _ hlt2).trans hk2
 obtain⟨y0,y1,-,-⟩:=ncells2 hk3
 have B2:=zk (Xk (zq B1) b2)
 have B3:=zk (Xk (zq B2) bz)
 have s2:=(zq B2).size
 have qq:=Q0 _ (zq B3)
 have HS:=zk hS
 have HE:=zk hE
 clear hS hE b2 hk1 hk2 hk3 B1 Q0 q0 q1 q2
 gi_wp2_with fail
 have hbl:=(zq HS).lt
 have Z1:Hid (SetV ((w2.alloc (.map #[] 0)).alloc (boxS w2.heap.size)) b E):=(zq HS).later bz hbl
 have Z2:Hid (SetV ((w2.alloc (.map #[] 0)).alloc (boxS w2.heap.size)) w2.heap.size []):=(SetV.new w2).keep ((Below.new1 _).block _ (by simp))
 have Z3:Hid (((w2.alloc (.map #[] 0)).alloc (boxS w2.heap.size)).heap[w2.heap.size+1]? =some (boxS w2.heap.size)):=by
  have:=heap_alloc_new (w2.alloc (.map #[] 0)) (boxS w2.heap.size)
  rwa [World.size_alloc]at this
 have sz:((w2.alloc (.map #[] 0)).alloc (boxS w2.heap.size)).heap.size=w2.heap.size+2:=by simp
 clear bz HS B2 qq y0 y1 hmm
 generalize ((w2.alloc (.map #[] 0)).alloc (boxS w2.heap.size))=Z at*
 refine wpIn_loop (LfL w w2 b E p.1 (.agg #[.slice (some ⟨gp,off,none⟩) P.length c,.slice aK nK cK]) (i:Int) (.slice (some ⟨gp,off,none⟩) P.length c) (P.length:Nat) (.pointer (some ⟨gp,off+3*i,none⟩)) (.slice aA p.1.length cA))
  (fun a' _=>p.1.length-(intOf (a'.tmps.getD 35 undef)).toNat) ?_ ?_
 ·exact⟨0,0,[],[],undef,undef,undef,undef,undef,undef,undef,undef,undef,undef,undef,undef,undef,rfl,rfl,Nat.zero_le _,rfl,Nat.zero_le _,Z1,Z2,Z3,B3,by omega,trivial⟩
 ·rintro a' W' ⟨k,ki,ds,pre,u8,u9,u36,u37,u38,u39,u40,u41,u42,u43,u44,u45,u46,rfl,rfl,hk,hO,hlen,hE1,hL,hbx,hB,hsz,hM⟩
  clear Z1 Z2 Z3 B3 sz
  unfold lfT
  by_cases hlt:k<p.1.length
  ·obtain⟨a',c',e,-,-,h3⟩:=(zq HA).later (zq hB)
   injection e with e1 e2 e3
   subst e1;subst e3
   have hkl:p.1[k]? =some p.1[k]:=by simp[hlt]
   obtain⟨g2,off2,u2,rfl,hg2,r0,hsy⟩:=h3 k p.1[k] hkl
   have hl40:=zq H40 _ (List.getElem_mem hlt)
   have hfl:=zk (zq HFT _ (List.getElem_mem hlt))
   have ST:Hid ((p.1.take (k+1)).flatMap (XW E)=(p.1.take k).flatMap (XW E)++XW E p.1[k]):=by
    show _=_
    rw[List.take_succ_eq_append_getElem hlt,List.flatMap_append];simp
   obtain⟨a5,c5,rfl,-⟩:=id hsy
   have HSY:=zk hsy
   have CL:=zk (lefts_l b a5 (p.1[k]).length c5 W')
   have hll:=lef_len (E:=E) p.1[k]
   clear h3 hkl e2 hsy
   generalize p.1[k]=l at*
   gi_wp2_with fail
   refine⟨trivial,?_⟩
   refine(callsIn_wide.2 (zq CL)).mono ?_
   rintro e w3 ⟨rfl,hw3⟩
   subst hw3
   clear CL
   have sz3:((W'.alloc (boxS b)).alloc (boxY (.slice a5 l.length c5))).heap.size=W'.heap.size+2:=by simp
   have I0:LfI w b w2.heap.size W'.heap.size E pre (.slice a5 l.length c5) l ds [] ((W'.alloc (boxS b)).alloc (boxY (.slice a5 l.length c5))):=by
    have bb:Below W'.heap.size W' ((W'.alloc (boxS b)).alloc (boxY (.slice a5 l.length c5))):=(Below.new1 _).alloc (by simp) _
    refine⟨(zq hE1).later bb (zq hE1).lt,by rw[List.append_nil];exact(zq hL).later bb (zq hL).lt,(zq HSY).later (bb.mono (by omega)),(bb.block _ (by omega)).trans (zq hbx),?_,?_,Xk (zq hB) bb,(zq hM).later bb,fun D hD=>(Array.getElem?_eq_some_iff.1 ((zq hM).lt ds D hD).2).1⟩
    ·exact((Below.new1 _).block _ (by simp)).trans (heap_alloc_new W' _)
    ·have:=heap_alloc_new (W'.alloc (boxS b)) (boxY (.slice a5 l.length c5))
     rwa [World.size_alloc]at this
   clear hE1 hL hbx hB hM HSY
   gi_wp2_with fail
   generalize hZ3:((W'.alloc (boxS b)).alloc (boxY (.slice a5 l.length c5)))=Z3 at*
   clear hZ3
   have HI0:=zk I0
   clear I0
   refine rangeMore (n:=8) (by omega) (gf:=82) (cs:= #[.pointer (some ⟨W'.heap.size+1,0,none⟩),.pointer (some ⟨W'.heap.size,0,none⟩)]) rfl hx w2.heap.size (by rw[sz3];omega) (LfI w b w2.heap.size W'.heap.size E pre (.slice a5 l.length c5) l ds)
    (fun q x=>∃rest,q++x::rest=XW E l) (fun xs=>xs=XW E l) (fun q X X' hi k=>hi.below (by rw[sz3]at k;exact k) hbl (by omega) s2) (zq HI0)
    (fun x=>{tmps:=lfT (.agg #[.slice (some ⟨gp,off,none⟩) P.length c,.slice aK nK cK]) (i:Int) w.heap.size b w2.heap.size (.slice (some ⟨gp,off,none⟩) P.length c) (P.length:Nat) (.pointer (some ⟨gp,off+3*i,none⟩)) (.slice (some ⟨g2,off2,none⟩) p.1.length cA) (p.1.length:Nat) (k:Int) (.slice a5 l.length c5) (.int .i64 x) (.bool true) (.pointer (some ⟨g2,off2+k,none⟩)) (.slice a5 l.length c5) (.map (some b)) (.slice a5 l.length c5) (leftsF W'.heap.size (W'.heap.size+1)) (.int .i64 x) u43 u44 u45 u46,defers:=[]})
    ?assign ?body ?iter ?done
   case assign=>
    intro l' x X K' hK
    unfold lfT at hK
    gi_wp2
    exact hK
   case body=>
    rintro l' q x X hI ⟨rest,hx1⟩ hX
    rw[sz3]at hX
    have hql:q.length<l.length:=by
     rw[←hx1,List.length_append,List.length_cons]at hll
     omega
    have hxl:x∈XW E l:=by rw[←hx1];simp
    obtain⟨sx,hsx,-,rfl⟩:=lef_sub hxl
    have CP:=zk (nput_l w2.heap.size (pre++q) sx.2.2 X hI.set (zq hfl sx hsx) (by rw[List.length_append];omega))
    have q0:X.cell? ⟨w2.heap.size+1,0,none⟩=some (.map (some w2.heap.size)):=by simp[World.cell?,hI.bx]
    have HI:=zk hI
    clear hI hsx hxl hx1
    generalize sx.2.2=z at*
    unfold lfT
    gi_wp2_with fail
    refine⟨trivial,?_⟩
    refine(CallsIn.inRound l' (callsIn_wide.2 (zq CP))).mono ?_
    rintro e X2 ⟨rfl,hs2,hg2⟩
    gi_wp2_with fail
    exact⟨hg2,(zq HI).put hs2 hg2 hbl (by omega) s2 hX⟩
   case iter=>
    intro lr X J hs hb' hJI hJb hY h0
    rw[sz3]at hs
    refine(lefts_iter 7 (by omega) lr W'.heap.size (W'.heap.size+1) b w.heap.size w2.heap.size E (.slice a5 l.length c5) l X J (fun q X1 hj=> ?_) hJb (fun q x X1 h1 h2 h3=>hY q x X1 h1 h2 h3) (by omega) h0).mono ?_
    ·have:=hJI _ _ hj
     exact⟨this.emp,this.sy,this.c1,this.c2⟩
    ·rintro e X' ⟨hv,hj⟩
     exact⟨hv,_,rfl,hj⟩
   case done=>
    intro xs X hE' hI hD'
    subst hE'
    have MK:Hid (Marks (w2.heap.size+2) X (markD Z3.heap.size::ds)):=⟨Z3.heap.size,rfl,by rw[sz3];omega,hD',fun D' hD2 e=>by have:=hI.ml D' hD2;rw[sz3]at e;omega,hI.mrk⟩
    have hXs:w2.heap.size+2≤X.heap.size:=by have:=(Array.getElem?_eq_some_iff.1 hI.c1).1;omega
    have HI:=zk hI
    have NX:Hid (pre++XW E l=(p.1.take (k+1)).flatMap (XW E)):=by
     show _=_
     rw[zq ST,zq hO]
    clear hI hD' HI0
    gi_wp2_with fail
    refine⟨⟨k+1,(k:Int)+1,markD Z3.heap.size::ds,pre++XW E l,_,_,_,_,_,_,_,_,_,_,_,_,_,by omega,rfl,by omega,NX,by rw[List.length_append];omega,(zq HI).emp,(zq HI).set,(zq HI).bx,(zq HI).bel,hXs,MK⟩,?_⟩
    simp[intOf];omega
  ·obtain rfl:k=p.1.length:=by omega
   have q0:W'.cell? ⟨w2.heap.size+1,0,none⟩=some (.map (some w2.heap.size)):=by
    have:=zq hbx
    simp[World.cell?,this]
   have CK:=zk (keysN_l w2.heap.size W')
   have bb:Below W'.heap.size W' (W'.alloc (boxS w2.heap.size)):=Below.new1 _
   have CS:=zk (sortedN_l w2.heap.size W'.heap.size pre (W'.alloc (boxS w2.heap.size)) ((zq hL).later bb (zq hL).lt) (box_cell (heap_alloc_new W' (boxS w2.heap.size))) (by omega))
   have B4:=zk (Xk (zq hB) bb)
   have M4:=zk ((zq hM).later bb)
   have MEM:Hid (∀x,x∈pre↔leftP (P,K) (i:Int) x):=by
    intro x
    rw[zq HLP x,zq hO,List.take_of_length_le (Nat.le_refl _),List.mem_flatMap]
    constructor
    ·rintro⟨al,ha,hx⟩
     exact⟨al,ha,by rw[←lef_is (zq HE)];exact hx⟩
    ·rintro⟨al,ha,hx⟩
     exact⟨al,ha,by rw[lef_is (zq HE)];exact hx⟩
   have s4:w2.heap.size+2≤(W'.alloc (boxS w2.heap.size)).heap.size:=by simp;omega
   clear hE1 hL hbx hB hM hO HA H40 HFT HLP HE hx
   gi_wp2_with fail
   refine⟨trivial,?_⟩
   refine(callsIn_wide.2 (zq CK)).mono ?_
   rintro e w5 ⟨rfl,hw5⟩
   subst hw5
   gi_wp2_with fail
   refine⟨trivial,?_⟩
   refine(callsIn_wide.2 (zq CS)).mono ?_
   rintro e w6 ⟨v6,L,rfl,hp6,hm6,hv6,b6⟩
   have M6:=(zq M4).later b6
   have B6:=Xk (zq B4) b6
   have s6:=b6.size
   have H6:=zk (And.intro hp6 (And.intro hm6 hv6))
   clear CK CS hp6 hm6 hv6 b6
   gi_wp2_with fail
   refine Marks.leave _ _ M6 (by omega) fun X bX kX=> ?_
   obtain⟨hp6,hm6,hv6⟩:=zq H6
   refine⟨_,results_tmp rfl _ _ _,v6,L,rfl,hv6.off (by omega) kX,hp6,fun x=>(hm6 x).trans (zq MEM x),B6.trans (bX.mono (by omega))⟩
end Go.Proofs.YtcblkmlcbedomaaGreatDoor.Nl
namespace Go.Proofs.YtcblkmlcbedomaaGreatDoor.K
open Go.RowKit Go.Proofs.YtcblkmlcbedomaaGreatDoor.F Go.Proofs.YtcblkmlcbedomaaGreatDoor.Nl
theorem intsT_info:(Tryz.prog.info? 26).map (fun i=>(i.zero,i.size,i.bytes))=some (some (.slice none 0 0),1,24):=by kernel_rfl
theorem mk_rows (n:Nat) (hn:n≤900000):∃M:Array Value,M.toList=List.replicate n (.slice none 0 0)∧∀W:World,(Instr.makeSlice 60 (.int .i64 (n:Int)) (.int .i64 (n:Int))).run Tryz.prog W= .ok (.slice (some ⟨W.heap.size,0,none⟩) n n) (W.alloc (.cells M 26)):=by
 obtain⟨ti,hi0,hz0,hz1,hzb⟩:=infoT intsT_info
 refine⟨madeCells #[.slice none 0 0] (n*1),?_,fun W=> ?_⟩
 ·apply List.ext_getElem?
  intro j
  rw[Nat.mul_one]
  by_cases hj:j<n
  ·simp[madeCells,hj,Nat.mod_one]
  ·simp[madeCells,hj]
 ·have:=run_make (P:=Tryz.prog) W 60 26 ti _ Tryz.underlying60 hi0 hz0 .i64 .i64 (n:Int) (n:Int) (by omega) (by omega) (by rw[hzb];omega) (by omega)
  rw[hz1]at this
  exact this
theorem hold2 {W:World} {g:Nat} {x0 x1:Value} (h:W.cell? ⟨g,0,none⟩=some x0∧W.cell? ⟨g,1,none⟩=some x1) (hg:g<W.heap.size):∀X,Below W.heap.size W X→X.cell? ⟨g,0,none⟩=some x0∧X.cell? ⟨g,1,none⟩=some x1:=
 fun X b=>⟨(XZ (b.block g hg) 0).trans h.1,(XZ (b.block g hg) 1).trans h.2⟩
structure KinX (W X:World) (gl go b:Nat) (M:Array Value) (n:Nat):Prop where
 hb:X.heap[b]? =some (.cells #[.slice (some ⟨gl,0,none⟩) n n,.slice (some ⟨go,0,none⟩) n n] 62)
 hl:X.heap[gl]? =some (.cells M 26)
 ho:X.heap[go]? =some (.cells M 26)
 d1:gl≠go
 d2:gl≠b
 d3:go≠b
 s1:W.heap.size≤gl
 s2:W.heap.size≤go
 s3:W.heap.size≤b
 bel:Below W.heap.size W X
theorem three {W:World} {o1 o2 o3:Obj} {s:Nat} (hs:W.heap.size=s):(((W.alloc o1).alloc o2).alloc o3).heap[s]? =some o1∧(((W.alloc o1).alloc o2).alloc o3).heap[s+1]? =some o2∧(((W.alloc o1).alloc o2).alloc o3).heap[s+1+1]? =some o3:=by
 subst hs
 refine⟨?_,?_,?_⟩
 ·rw[heap_alloc_old _ _ (by simp;omega),heap_alloc_old _ _ (by simp)];exact heap_alloc_new _ _
 ·have:=heap_alloc_new (W.alloc o1) o2
  rw[heap_alloc_old _ _ (by simp)]
  simpa using this
 ·have:=heap_alloc_new ((W.alloc o1).alloc o2) o3
  simpa using this
def Tb (w:World) (g n:Nat) (f:Nat→Value):Prop:=∃C:Array Value,w.heap[g]? =some (.cells C 26)∧C.size=n∧∀m,m<n→C[m]? =some (f m)
def upF {α:Type} (f:Nat→α) (i:Nat) (v:α):Nat→α:=fun m=>if m=i then v else f m
theorem XJ {α:Type} (f:Nat→α) (i:Nat) (v:α):upF f i v i=v:=if_pos rfl
theorem Xv {α:Type} (f:Nat→α) {i m:Nat} (v:α) (h:m≠i):upF f i v m=f m:=if_neg h
theorem Tb.at {w:World} {g n:Nat} {f:Nat→Value} (h:Tb w g n f) {m:Nat} (hm:m<n):w.cell? ⟨g,m,none⟩=some (f m):=by
 obtain⟨C,h1,-,h3⟩:=h
 simp[World.cell?,h1,h3 m hm]
theorem Tb.fz {w:World} {g n:Nat} {f:Nat→Value} (h:Tb w g n f) (m:Nat):w.frozen? ⟨g,m,none⟩=false:=by
 obtain⟨C,h1,-,-⟩:=h
 simp[World.frozen?,h1]
theorem Tb.keep {w w':World} {g n:Nat} {f:Nat→Value} (h:Tb w g n f) (e:w'.heap[g]? =w.heap[g]?):Tb w' g n f:=by
 obtain⟨C,h1,h2,h3⟩:=h
 exact⟨C,e.trans h1,h2,h3⟩
theorem Tb.lt {w:World} {g n:Nat} {f:Nat→Value} (h:Tb w g n f):g<w.heap.size:=by
 obtain⟨C,h1,-,-⟩:=h
 exact(Array.getElem?_eq_some_iff.1 h1).1
theorem Tb.set {w:World} {g n:Nat} {f:Nat→Value} (h:Tb w g n f) (i:Nat) (v:Value):Tb (w.setCell ⟨g,i,none⟩ v) g n (upF f i v):=by
 obtain⟨C,h1,h2,h3⟩:=h
 refine⟨C.setIfInBounds i v,heap_setCell_same w g i _ _ v h1,by simp[h2],fun m hm=> ?_⟩
 unfold upF
 by_cases e:m=i
 ·subst e
  rw[if_pos rfl,Array.getElem?_setIfInBounds_self_of_lt (by omega)]
 ·rw[if_neg e,Array.getElem?_setIfInBounds_ne (fun c=>e c.symm)]
  exact h3 m hm
theorem inv_typ {w:World} {B:Nat} {v:Value} {l:List Int} (h:InV w B v l) {g:Nat} (hg:v.ownBlock=some g):∃cs,w.heap[g]? =some (.cells cs 3):=by
 rcases h.2 with ⟨rfl,-⟩|⟨g',cap,cur,rfl,hb,hk,-⟩
 ·cases hg
 ·cases hg;exact⟨cur,hk⟩
theorem inv_ne {w:World} {B g:Nat} {v:Value} {l:List Int} {cs:Array Value} {t:TypeId} (h:InV w B v l) (hg:w.heap[g]? =some (.cells cs t)) (ht:t≠3):v.ownBlock≠some g:=by
 intro e
 obtain⟨cs',h'⟩:=inv_typ h e
 rw[hg]at h'
 injection h' with h'
 injection h' with _ h2
 exact ht h2
theorem Tb.ne {w:World} {B g n:Nat} {f:Nat→Value} {v:Value} {l:List Int} (hT:Tb w g n f) (h:InV w B v l):v.ownBlock≠some g:=by
 obtain⟨C,h1,-,-⟩:=hT
 exact inv_ne h h1 (by decide)
structure KI (w:World) (B gl go n:Nat) (fl fo:Nat→Value) (L O:Nat→List Int):Prop where
 tl:Tb w gl n fl
 to:Tb w go n fo
 lo1:B≤gl
 lo2:B≤go
 ne:gl≠go
 lv:∀m,InV w B (fl m) (L m)
 ov:∀m,InV w B (fo m) (O m)
 oo:∀m m' g,m≠m'→(fo m).ownBlock=some g→(fo m').ownBlock≠some g
 ol:∀m m' g,(fo m).ownBlock=some g→(fl m').ownBlock≠some g
theorem KI.low {w:World} {B gl go n:Nat} {fl fo:Nat→Value} {L O:Nat→List Int} (h:KI w B gl go n fl fo L O):B≤w.heap.size:=by
 have h1:=h.lo1
 have h2:=h.tl.lt
 omega
theorem KI.later {w w':World} {B gl go n:Nat} {fl fo:Nat→Value} {L O:Nat→List Int} (h:KI w B gl go n fl fo L O) (k:Below w.heap.size w w'):KI w' B gl go n fl fo L O:=
 ⟨h.tl.keep (k.block _ h.tl.lt),h.to.keep (k.block _ h.to.lt),h.lo1,h.lo2,h.ne,fun m=>own_lat k (h.lv m),fun m=>own_lat k (h.ov m),h.oo,h.ol⟩
theorem KI.left {w w1:World} {B gl go n i:Nat} {fl fo:Nat→Value} {L O:Nat→List Int} {v:Value} {l:List Int} (h:KI w B gl go n fl fo L O) (hb:Below w.heap.size w w1) (hv:InV w1 w.heap.size v l):
  KI (w1.setCell ⟨gl,i,none⟩ v) B gl go n (upF fl i v) fo (upF L i l) O:=by
 have h1:=h.later hb
 have hB:=h.low
 have keep:∀{u:Value} {x:List Int},InV w1 B u x→InV (w1.setCell ⟨gl,i,none⟩ v) B u x:=fun hu=>ju hu (fun g hg=>heap_setCell_other _ _ _ _ (fun e=>h1.tl.ne hu (by rw[hg,show g=gl from e])))
 refine⟨h1.tl.set i v,h1.to.keep (heap_setCell_other _ _ _ _ (fun e=>h1.ne e.symm)),h1.lo1,h1.lo2,h1.ne,fun m=> ?_,fun m=>keep (h1.ov m),h1.oo,fun m m' g hg=> ?_⟩
 ·by_cases e:m=i
  ·subst e
   rw[XJ,XJ]
   exact keep (Xi hv hB)
  ·rw[Xv _ _ e,Xv _ _ e]
   exact keep (h1.lv m)
 ·by_cases e:m'=i
  ·subst e
   rw[XJ]
   intro c
   have h2:=(Xj hv c).1
   have h3:=(Xj (h.ov m) hg).2
   omega
  ·rw[Xv _ _ e]
   exact h1.ol m m' g hg
theorem KI.of {w:World} {B gl go n m:Nat} {fl fo:Nat→Value} {L O:Nat→List Int} (h:KI w B gl go n fl fo L O) (x:Int) (hs:(O m).length≤1000000) {g:Nat} (hg:w.heap[g]? =some (.cells #[.int .i64 x] 3)):
  ∃v' w',(Builtin.append_ #[26,26] 26 #[fo m,.slice (some ⟨g,0,none⟩) 1 1]).run Tryz.prog w= .ok v' w'∧Tb w' go n fo∧w.grownBy w' (fo m).ownBlock∧Below B w w'∧
   KI (w'.setCell ⟨go,m,none⟩ v') B gl go n fl (upF fo m v') L (upF O m (O m++[x]))∧Below B w (w'.setCell ⟨go,m,none⟩ v'):=by
 have hB:=h.low
 obtain⟨v',w',hr,own,gr,hnew⟩:=intk_append (h.ov m) hB hg hs
 have T1:Tb w' go n fo:=h.to.keep (gr.block _ h.to.lt (fun e=>h.to.ne (h.ov m) e.symm))
 have T2:Tb w' gl n fl:=h.tl.keep (gr.block _ h.tl.lt (fun e=>h.tl.ne (h.ov m) e.symm))
 have B1:Below B w w':=(Below.refl B w).grown gr hB (fun k hk=>(Xj (h.ov m) hk).1)
 have hne:∀k,v'.ownBlock=some k→(fo m).ownBlock=some k∨w.heap.size≤k:=fun k hk=>by
  rcases hnew with e|e
  ·exact .inl (by rw[←e];exact hk)
  ·rw[e]at hk;injection hk with hk;exact .inr (by omega)
 have hv':InV w' B v' (O m++[x]):=by
  unfold InV
  rw[List.length_append,List.map_append]
  exact own
 have keepL:∀m',InV w' B (fl m') (L m'):=fun m'=>ju (h.lv m') (fun k hk=>gr.block k (Xj (h.lv m') hk).2 (fun e=>h.ol m m' k e.symm hk))
 have keepO:∀m',m'≠m→InV w' B (fo m') (O m'):=fun m' hm=>ju (h.ov m') (fun k hk=>gr.block k (Xj (h.ov m') hk).2 (fun e=>h.oo m m' k (fun c=>hm c.symm) e.symm hk))
 have keep:∀{u:Value} {y:List Int},InV w' B u y→InV (w'.setCell ⟨go,m,none⟩ v') B u y:=fun hu=>ju hu (fun k hk=>heap_setCell_other _ _ _ _ (fun e=>T1.ne hu (by rw[hk,show k=go from e])))
 refine⟨v',w',hr,T1,gr,B1,⟨T2.keep (heap_setCell_other _ _ _ _ h.ne),T1.set m v',h.lo1,h.lo2,h.ne,fun m'=>keep (keepL m'),fun m'=> ?_,fun a b k hab ha=> ?_,fun a b k ha=> ?_⟩,B1.setCell h.lo2 _⟩
 ·by_cases e:m'=m
  ·subst e
   rw[XJ,XJ]
   exact keep hv'
  ·rw[Xv _ _ e,Xv _ _ e]
   exact keep (keepO m' e)
 ·by_cases ea:a=m
  ·subst ea
   rw[XJ]at ha
   rw[Xv _ _ (fun c=>hab c.symm)]
   rcases hne k ha with c|c
   ·exact h.oo _ _ _ hab c
   ·intro d
    have:=(Xj (h.ov b) d).2
    omega
  ·rw[Xv _ _ ea]at ha
   by_cases eb:b=m
   ·subst eb
    rw[XJ]
    intro d
    rcases hne k d with c|c
    ·exact h.oo _ _ _ hab ha c
    ·have:=(Xj (h.ov a) ha).2
     omega
   ·rw[Xv _ _ eb]
    exact h.oo _ _ _ hab ha
 ·by_cases ea:a=m
  ·subst ea
   rw[XJ]at ha
   rcases hne k ha with c|c
   ·exact h.ol _ _ _ c
   ·intro d
    have:=(Xj (h.lv b) d).2
    omega
  ·rw[Xv _ _ ea]at ha
   exact h.ol _ _ _ ha
theorem inv_nsB {w:World} {B B':Nat} {v:Value} {l:List Int} (h:InV w B v l) (hB:w.heap.size≤B'):NsB B' w v l:=by
 rcases id h.2 with ⟨rfl,h0⟩|⟨g,cap,cur,rfl,hb,hg,hn,hm,hsz,ht⟩
 ·exact⟨none,0,by rw[h0],by omega,Nat.zero_le _,fun j x hj=>by
   have:=List.eq_nil_of_length_eq_zero h0;subst this;simp at hj⟩
 ·refine⟨_,cap,rfl,hn,hm,fun j x hj=>⟨g,0,rfl,?_,?_⟩⟩
  ·have:=(Array.getElem?_eq_some_iff.1 hg).1;omega
  ·have hl:=(List.getElem?_eq_some_iff.1 hj).1
   have:=World.ownsRow.cellAt h j (by omega)
   rw[List.getElem?_map,hj]at this
   rw[Nat.zero_add];exact this
theorem Tb.kv {w:World} {g n B B':Nat} {f:Nat→Value} {L:Nat→List Int} (h:Tb w g n f) (hv:∀m,InV w B (f m) (L m)) (hB:w.heap.size≤B') (hn:n≤900000):KvB B' w (.slice (some ⟨g,0,none⟩) n n) ((List.range n).map L):=by
 refine⟨some ⟨g,0,none⟩,n,by simp,by simp,by unfold maxLen;omega,fun j l hj=> ?_⟩
 have hjn:j<n:=by have:=(List.getElem?_eq_some_iff.1 hj).1;simpa using this
 rw[List.getElem?_map,List.getElem?_range hjn]at hj
 simp at hj
 subst hj
 exact⟨g,0,f j,rfl,by have:=h.lt;omega,by rw[Nat.zero_add];exact h.at hjn,inv_nsB (hv j) hB⟩
theorem rangeD (n:Nat) (L:Nat→List Int) (m:Nat):((List.range n).map L).getD m []=if m<n then L m else []:=by
 rw[List.getD_eq_getElem?_getD,List.getElem?_map]
 by_cases h:m<n
 ·rw[if_pos h,List.getElem?_range h];rfl
 ·rw[if_neg h,List.getElem?_eq_none (by simpa using h)];rfl
structure PI (L O:Nat→List Int) (k j:Nat):Prop where
 up:∀m,(O m).Pairwise (· < ·)
 mem:∀(m:Nat) (x:Int),x∈O m↔(∃q:Nat,x=(q:Int)∧q<k∧(m:Int)∈L q)∨(x=(k:Int)∧(m:Int)∈(L k).take j)
theorem up_nodup {l:List Int} (h:l.Pairwise (· < ·)):l.Nodup:=by
 unfold List.Nodup
 rw[List.pairwise_iff_getElem]at*
 intro i j hi hj hij e
 have:=h i j hi hj hij
 omega
theorem PI.zero (L:Nat→List Int):PI L (fun _=> []) 0 0:=
 ⟨fun _=>List.Pairwise.nil,fun m x=>⟨fun h=>(by cases h),fun h=>by rcases h with ⟨q,-,h,-⟩|⟨-,h⟩;exact absurd h (Nat.not_lt_zero _);simp at h⟩⟩
theorem PI.len {L O:Nat→List Int} {k j:Nat} (h:PI L O k j) (m:Nat):(O m).length≤k+1:=
 nd_len (k+1) _ (up_nodup (h.up m)) (fun y hy=>by
  rcases (h.mem m y).1 hy with ⟨q,e,hq,-⟩|⟨e,-⟩
  ·exact⟨q,e,by omega⟩
  ·exact⟨k,e,by omega⟩)
theorem PI.row {L O:Nat→List Int} {k:Nat} (h:PI L O k 0) (l:List Int):PI (upF L k l) O k 0:=
 ⟨h.up,fun m x=>by
  rw[h.mem m x,List.take_zero,List.take_zero]
  constructor
  ·rintro(⟨q,e,hq,hm⟩|⟨-,c⟩)
   ·exact .inl ⟨q,e,hq,by rw[Xv _ _ (by omega)];exact hm⟩
   ·cases c
  ·rintro(⟨q,e,hq,hm⟩|⟨-,c⟩)
   ·exact .inl ⟨q,e,hq,by rw[Xv _ _ (by omega)]at hm;exact hm⟩
   ·cases c⟩
theorem PI.step {L O:Nat→List Int} {k j m:Nat} (h:PI L O k j) (hu:(L k).Pairwise (· < ·)) (hj:(L k)[j]? =some (m:Int)):PI L (upF O m (O m++[(k:Int)])) k (j+1):=by
 obtain⟨hlt,he⟩:=List.getElem?_eq_some_iff.1 hj
 have ht:(L k).take (j+1)=(L k).take j++[(m:Int)]:=by rw[List.take_succ_eq_append_getElem hlt,he]
 have hno:(m:Int)∉(L k).take j:=by
  intro c
  obtain⟨i,hi⟩:=List.getElem?_of_mem c
  have hil:=(List.getElem?_eq_some_iff.1 hi).1
  rw[List.length_take]at hil
  rw[List.getElem?_take_of_lt (by omega)]at hi
  obtain⟨hil2,hie⟩:=List.getElem?_eq_some_iff.1 hi
  have:=List.pairwise_iff_getElem.1 hu i j hil2 hlt (by omega)
  omega
 refine⟨fun m'=> ?_,fun m' x=> ?_⟩
 ·by_cases e:m'=m
  ·subst e
   rw[XJ,List.pairwise_append]
   refine⟨h.up m',List.pairwise_singleton _ _,fun a ha c hc=> ?_⟩
   simp at hc
   subst hc
   rcases (h.mem m' a).1 ha with ⟨q,e,hq,-⟩|⟨-,c⟩
   ·omega
   ·exact absurd c hno
  ·rw[Xv _ _ e];exact h.up m'
 ·by_cases e:m'=m
  ·subst e
   rw[XJ,List.mem_append,h.mem m' x,ht]
   constructor
   ·rintro((a|⟨-,c⟩)|a)
    ·exact .inl a
    ·exact absurd c hno
    ·simp at a;exact .inr ⟨a,by simp⟩
   ·rintro(a|⟨a,-⟩)
    ·exact .inl (.inl a)
    ·exact .inr (by simp[a])
  ·rw[Xv _ _ e,h.mem m' x,ht]
   have:((m':Int)∈(L k).take j++[(m:Int)])↔(m':Int)∈(L k).take j:=by
    rw[List.mem_append]
    exact⟨fun a=>a.elim id (fun a=>absurd (by simpa using a:(m':Int)=(m:Int)) (fun c=>e (by omega))),.inl⟩
   rw[this]
theorem PI.next {L O:Nat→List Int} {k:Nat} (h:PI L O k (L k).length):PI L O (k+1) 0:=
 ⟨h.up,fun m x=>by
  rw[h.mem m x,List.take_length,List.take_zero]
  constructor
  ·rintro(⟨q,e,hq,hm⟩|⟨e,hm⟩)
   ·exact .inl ⟨q,e,by omega,hm⟩
   ·exact .inl ⟨k,e,by omega,hm⟩
  ·rintro(⟨q,e,hq,hm⟩|⟨-,c⟩)
   ·by_cases c:q=k
    ·subst c;exact .inr ⟨e,hm⟩
    ·exact .inl ⟨q,e,by omega,hm⟩
   ·cases c⟩
theorem PI.kin {L O:Nat→List Int} {n:Nat} (h:PI L O n 0) (hu:∀m,m<n→(L m).Pairwise (· < ·)) (hr:∀m,m<n→∀x∈L m,∃q:Nat,x=(q:Int)∧q<n):Kin ((List.range n).map L) ((List.range n).map O) n:=by
 have hO:∀(m:Nat) (x:Int),x∈O m↔∃q:Nat,x=(q:Int)∧q<n∧(m:Int)∈L q:=fun m x=>by
  rw[h.mem m x,List.take_zero]
  exact⟨fun a=>a.elim id (fun a=>(by cases a.2)),.inl⟩
 refine⟨by simp,by simp,fun m=> ?_,fun m=> ?_,fun m k=> ?_,fun l hl y hy=> ?_,fun l hl y hy=> ?_⟩
 ·rw[rangeD];split
  ·exact up_nodup (hu m (by assumption))
  ·exact List.nodup_nil
 ·rw[rangeD];split
  ·exact up_nodup (h.up m)
  ·exact List.nodup_nil
 ·rw[rangeD,rangeD]
  by_cases hm:m<n
  ·rw[if_pos hm,hO]
   by_cases hk:k<n
   ·rw[if_pos hk]
    exact⟨fun⟨q,e,_,a⟩=>by obtain rfl:k=q:=(by omega);exact a,fun a=>⟨k,rfl,hk,a⟩⟩
   ·rw[if_neg hk]
    exact⟨fun⟨q,e,hq,_⟩=>absurd hq (by omega),fun a=>(by cases a)⟩
  ·rw[if_neg hm]
   refine⟨fun a=>(by cases a),fun a=> ?_⟩
   by_cases hk:k<n
   ·rw[if_pos hk]at a
    obtain⟨q,e,hq⟩:=hr k hk _ a
    omega
   ·rw[if_neg hk]at a;cases a
 ·obtain⟨m,hm,rfl⟩:=List.mem_map.1 hl
  obtain⟨q,e,hq,-⟩:=(hO m y).1 hy
  exact⟨q,e,hq⟩
 ·obtain⟨m,hm,rfl⟩:=List.mem_map.1 hl
  exact hr m (by simpa using hm) y hy
theorem lef_rng {P:List PRD} {K:List (List Int)} (hg:gramB P=true) {n x:Int} (h:leftP (P,K) n x):∃q:Nat,x=(q:Int)∧q<P.length:=by
 obtain⟨-,-,-,-,ok,-⟩:=gram_ok hg
 obtain⟨-,i,p,a,-,hi,ha,hx⟩:=h
 have hp:p∈P:=List.mem_of_getElem? hi
 have key:∀l:List SY,(∀s∈l,s∈a)→x∈lefL (nuL P) l→∃s∈a,s.1=2∧x=s.2.2:=by
  intro l
  induction l with
  |nil=>intro _ h;cases h
  |cons s l ih=>
   intro hs h
   unfold lefL at h
   by_cases h2:s.1=2
   ·rw[if_pos h2]at h
    rcases List.mem_cons.1 h with e|h
    ·exact⟨s,hs s List.mem_cons_self,h2,e⟩
    ·split at h
     ·exact ih (fun t ht=>hs t (List.mem_cons_of_mem _ ht)) h
     ·cases h
   ·rw[if_neg h2]at h;cases h
 obtain⟨s,hs,h2,rfl⟩:=key a (fun _ h=>h) hx
 have:=ok p hp a ha s hs h2
 exact⟨s.2.2.toNat,by omega,by omega⟩
theorem app_stepk {P:Program} {w:World} {ops:Array Oper} {o:Oper} {a:Act} {K:Act→World→Prop} {Q:Exit→Act→World→Prop} {E:Prop} (hgd:o.guard=none) (s x:Operand) (t ty:TypeId)
  (ho:o.op= .call {callee:= .builtin .append,args:= #[s,x],argTypes:= #[t,t]}) (hty:o.type=ty) (v1 v2:Value) (hs:a.eval s=v1) (hx:a.eval x=v2) {v':Value} {w':World}
  (hr:(Builtin.append_ #[t,t] ty #[v1,v2]).run P w= .ok v' w') (h:K (a.put o.dst v') w'):if Region.wanted o (yielded ops a.tmps)=true then Oper.wp P o a w K Q else E:=by
 have hw:Region.wanted o (yielded ops a.tmps)=true:=by simp[Region.wanted,hgd]
 rw[if_pos hw]
 subst hty
 unfold Oper.wp
 simp[execOp,ho,resolve,invoke,builtin,hs,hx,hr,Result.andThen,Oper.upon]
 exact h
abbrev kinO (gl go n:Nat):Obj:= .cells #[.slice (some ⟨gl,0,none⟩) n n,.slice (some ⟨go,0,none⟩) n n] 62
structure KW (W:World) (g:GR) (gl go b n k:Nat) (wr:World):Prop where
 bk:wr.heap[b]? =some (kinO gl go n)
 bel:Below W.heap.size W wr
 st:∃fl fo L O,KI wr W.heap.size gl go n fl fo L O∧PI L O k 0∧∀m,m<k→(L m).Pairwise (· < ·)∧∀x,x∈L m↔leftP g (m:Int) x
structure KJ (W:World) (g:GR) (gl go b n k:Nat) (v:Value) (l:List Int) (q:Nat) (wr:World):Prop where
 bk:wr.heap[b]? =some (kinO gl go n)
 bel:Below W.heap.size W wr
 st:∃fl fo L O,KI wr W.heap.size gl go n fl fo L O∧PI L O k q∧(∀m,m<k+1→(L m).Pairwise (· < ·)∧∀x,x∈L m↔leftP g (m:Int) x)∧fl k=v∧L k=l
theorem kin_tb {w:World} {b gl go n m:Nat} {f:Nat→Value} {o:Nat} (h:w.heap[b]? =some (kinO gl go n)) (hT:Tb w o m f):b≠o:=by
 intro e
 subst e
 obtain⟨C,h1,-,-⟩:=hT
 rw[h]at h1
 injection h1 with h1
 injection h1 with _ h2
 exact absurd h2 (by decide)
theorem kin_inv {w:World} {B b gl go n:Nat} {v:Value} {l:List Int} (h:w.heap[b]? =some (kinO gl go n)) (hv:InV w B v l):some b≠v.ownBlock:=fun e=>inv_ne hv h (by decide) e.symm
theorem KW.zero {W X:World} {g:GR} {gl go b n:Nat} {M:Array Value} (h:KinX W X gl go b M n) (hM:M.toList=List.replicate n (.slice none 0 0)):KW W g gl go b n 0 X:=by
 have hC:∀o,X.heap[o]? =some (.cells M 26)→Tb X o n (fun _=> .slice none 0 0):=fun o ho=>by
  refine⟨M,ho,by rw[←Array.length_toList,hM,List.length_replicate],fun m hm=> ?_⟩
  rw[←Array.getElem?_toList,hM,List.getElem?_replicate,if_pos hm]
 exact⟨h.hb,h.bel,_,_,_,_,⟨hC _ h.hl,hC _ h.ho,h.s1,h.s2,h.d1,fun m=>InV.nil _ _,fun m=>InV.nil _ _,fun m m' g hm e=>(by cases e),fun m m' g e=>(by cases e)⟩,PI.zero (fun _=> []),fun m hm=>absurd hm (Nat.not_lt_zero _)⟩
theorem KW.later {W:World} {g:GR} {gl go b n k:Nat} {wr w':World} (h:KW W g gl go b n k wr) (hb:Below wr.heap.size wr w'):KW W g gl go b n k w':=by
 obtain⟨fl,fo,L,O,h1,h2,h3⟩:=h.st
 exact⟨(hb.block _ (Array.getElem?_eq_some_iff.1 h.bk).1).trans h.bk,h.bel.trans (hb.mono h.bel.size),fl,fo,L,O,h1.later hb,h2,h3⟩
theorem KW.put {W:World} {g:GR} {gl go b n k:Nat} {wr w5:World} {v:Value} {l:List Int} (h:Hid (KW W g gl go b n k wr)) (hk:k<n) (hb:Below wr.heap.size wr w5) (hv:InV w5 wr.heap.size v l) (hu:l.Pairwise (· < ·)) (hm:∀x,x∈l↔leftP g (k:Int) x):
  ∃u,w5.cell? ⟨gl,k,none⟩=some u∧w5.frozen? ⟨gl,k,none⟩=false∧Hid (KW W g gl go b n k w5)∧Hid (KJ W g gl go b n k v l 0 (w5.setCell ⟨gl,k,none⟩ v)):=by
 have h5:=(zq h).later hb
 obtain⟨fl,fo,L,O,h1,h2,h3⟩:=(zq h).st
 have T5:=h1.tl.keep (hb.block _ h1.tl.lt)
 refine⟨_,T5.at hk,T5.fz k,h5,⟨?_,h5.bel.setCell (p:=⟨gl,k,none⟩) h1.lo1 _,_,fo,_,O,h1.left hb hv,h2.row l,fun m hmk=> ?_,XJ _ _ _,XJ _ _ _⟩⟩
 ·exact(heap_setCell_other _ _ _ _ (kin_tb h5.bk T5)).trans h5.bk
 ·by_cases e:m=k
  ·subst e
   rw[XJ]
   exact⟨hu,hm⟩
  ·rw[Xv _ _ e]
   exact h3 m (by omega)
theorem KJ.row {W:World} {g:GR} {gl go b n k q:Nat} {wr:World} {v:Value} {l:List Int} (h:Hid (KJ W g gl go b n k v l q wr)) (hk:k<n):wr.cell? ⟨gl,k,none⟩=some v:=by
 obtain⟨fl,fo,L,O,h1,h2,h3,rfl,rfl⟩:=(zq h).st
 exact h1.tl.at hk
theorem KJ.done {W:World} {g:GR} {gl go b n k:Nat} {wr:World} {v:Value} {l:List Int} (h:Hid (KJ W g gl go b n k v l l.length wr)):Hid (KW W g gl go b n (k+1) wr):=by
 obtain⟨fl,fo,L,O,h1,h2,h3,rfl,rfl⟩:=(zq h).st
 exact⟨(zq h).bk,(zq h).bel,fl,fo,L,O,h1,h2.next,h3⟩
theorem KJ.elt {W:World} {P:List PRD} {K:List (List Int)} {gl go b n k q:Nat} {wr:World} {a:Option Addr} {c z:Nat} {l:List Int} (hg:gramB P=true) (hn:P.length=n) (h:Hid (KJ W (P,K) gl go b n k (.slice a z c) l q wr)) (hq:q<l.length):
  ∃m:Nat,l[q]? =some (m:Int)∧m<n∧∃g off,a=some ⟨g,off,none⟩∧wr.cell? ⟨g,off+q,none⟩=some (.int .i64 (m:Int)):=by
 obtain⟨fl,fo,L,O,h1,h2,h3,hf,rfl⟩:=(zq h).st
 have hx:=List.getElem?_eq_getElem hq
 obtain⟨m,e,hm⟩:=lef_rng hg (((h3 k (by omega)).2 _).1 (List.getElem_mem hq))
 obtain⟨a',c',e2,-,-,h6⟩:=inv_nsB (h1.lv k) (Nat.le_refl _)
 rw[hf]at e2
 injection e2 with e3 e4 e5
 subst e3
 obtain⟨g,off,ea,-,hc⟩:=h6 q _ hx
 rw[e]at hc hx
 exact⟨m,hx,by omega,g,off,ea,hc⟩
theorem KJ.of {W:World} {g:GR} {gl go b n k q m:Nat} {wr:World} {v:Value} {l:List Int} (h:Hid (KJ W g gl go b n k v l q wr)) (hk:k<n) (hn:n≤900000) (hq:l[q]? =some (m:Int)) (hm:m<n):
  ∃au nu cu,(∀X,Below wr.heap.size wr X→X.cell? ⟨go,m,none⟩=some (.slice au nu cu))∧∀X,Below wr.heap.size wr X→∀g1,X.heap[g1]? =some (.cells #[.int .i64 (k:Int)] 3)→
   ∃a' n' c' w',(Builtin.append_ #[26,26] 26 #[.slice au nu cu,.slice (some ⟨g1,0,none⟩) 1 1]).run Tryz.prog X= .ok (.slice a' n' c') w'∧w'.cell? ⟨go,m,none⟩=some (.slice au nu cu)∧w'.frozen? ⟨go,m,none⟩=false∧
    w'.cell? ⟨b,1,none⟩=some (.slice (some ⟨go,0,none⟩) n n)∧Hid (KJ W g gl go b n k v l (q+1) (w'.setCell ⟨go,m,none⟩ (.slice a' n' c'))):=by
 obtain⟨fl,fo,L,O,h1,h2,h3,rfl,rfl⟩:=(zq h).st
 have hbk:=(zq h).bk
 have hbel:=(zq h).bel
 obtain⟨au,nu,cu,eu⟩:=Xa (h1.ov m)
 refine⟨au,nu,cu,fun X bX=> ?_,fun X bX g1 hg1=> ?_⟩
 ·rw[←eu]
  exact(h1.later bX).to.at hm
 ·have hX:=h1.later bX
  have bkX:=(bX.block _ (Array.getElem?_eq_some_iff.1 hbk).1).trans hbk
  obtain⟨v',w',hr,T1,gr,B1,K1,B2⟩:=hX.of (m:=m) (k:Int) (by have:=h2.len m;omega) hg1
  have bk1:w'.heap[b]? =some (kinO gl go n):=(gr.block b (Array.getElem?_eq_some_iff.1 bkX).1 (kin_inv bkX (hX.ov m))).trans bkX
  have hv':=K1.ov m
  rw[XJ,XJ]at hv'
  obtain⟨a',n',c',rfl⟩:=Xa hv'
  rw[eu]at hr
  have hle:W.heap.size≤X.heap.size:=Nat.le_trans hbel.size bX.size
  refine⟨a',n',c',w',hr,by rw[←eu];exact T1.at hm,T1.fz m,(XK bk1).2,⟨?_,(hbel.trans (bX.mono hbel.size)).trans B2,fl,_,L,_,K1,h2.step (h3 k (by omega)).1 hq,h3,rfl,rfl⟩⟩
  exact(heap_setCell_other _ _ _ _ (kin_tb bk1 T1)).trans bk1
def KinR (w0:World) (g:GR) (n:Nat) (e:Ending) (w':World):Prop:=∃gl go L O,e= .returned (.agg #[.slice (some ⟨gl,0,none⟩) n n,.slice (some ⟨go,0,none⟩) n n])∧KvB w'.heap.size w' (.slice (some ⟨gl,0,none⟩) n n) L∧KvB w'.heap.size w' (.slice (some ⟨go,0,none⟩) n n) O∧Kin L O n∧
 (∀m,(L.getD m []).length≤n)∧(∀m:Nat,m<n→∀x,x∈L.getD m []↔leftP g (m:Int) x)∧Below w0.heap.size w0 w'
theorem KI.keep {w w':World} {B gl go n:Nat} {fl fo:Nat→Value} {L O:Nat→List Int} (h:KI w B gl go n fl fo L O) (k:∀i,B≤i→w'.heap[i]? =w.heap[i]?):KI w' B gl go n fl fo L O:=
 ⟨h.tl.keep (k _ h.lo1),h.to.keep (k _ h.lo2),h.lo1,h.lo2,h.ne,fun m=>ju (h.lv m) (fun g hg=>k g (Xj (h.lv m) hg).1),fun m=>ju (h.ov m) (fun g hg=>k g (Xj (h.ov m) hg).1),h.oo,h.ol⟩
theorem KW.fin {W w0:World} {P:List PRD} {K:List (List Int)} {gl go b n:Nat} {wr w':World} (hg:gramB P=true) (hP:P.length=n) (hn:n≤900000) (h:Hid (KW W (P,K) gl go b n n wr)) (k:∀i,W.heap.size≤i→w'.heap[i]? =wr.heap[i]?) (hb:Below w0.heap.size w0 w'):
  KinR w0 (P,K) n (.returned (.agg #[.slice (some ⟨gl,0,none⟩) n n,.slice (some ⟨go,0,none⟩) n n])) w':=by
 obtain⟨fl,fo,L,O,h1,h2,h3⟩:=(zq h).st
 have h1:=h1.keep k
 have hr:∀m,m<n→∀x∈L m,∃q:Nat,x=(q:Int)∧q<n:=fun m hm x hx=>by
  obtain⟨q,e,hq⟩:=lef_rng hg (((h3 m hm).2 x).1 hx)
  exact⟨q,e,by omega⟩
 refine⟨gl,go,_,_,rfl,h1.tl.kv h1.lv (Nat.le_refl _) hn,h1.to.kv h1.ov (Nat.le_refl _) hn,h2.kin (fun m hm=>(h3 m hm).1) hr,fun m=> ?_,fun m hm x=> ?_,hb⟩
 ·rw[rangeD]
  split
  ·exact nd_len n _ (up_nodup (h3 m (by assumption)).1) (hr m (by assumption))
  ·exact Nat.zero_le _
 ·rw[rangeD,if_pos hm]
  exact(h3 m hm).2 x
theorem kinOf_l (v:Value) (g:GR) (w:World) (h:GrM w v g) (hg:gramB g.1=true) (hn:g.1.length≤900000):
  Calls Tryz.prog 38 #[v] w fun e w'=>KinR w g g.1.length e w':=by
 have CL:=zk (fun W (bW:Below w.heap.size w W) i p hi=>nLefts_yes v g i p W (h.later bW) hg hi)
 obtain⟨a,c,aK,cK,rfl,hp,-⟩:=id h
 obtain⟨P,K⟩:=g
 simp only at CL hp hg hn⊢
 generalize K.length=nK at*
 generalize hnP:P.length=nP at*
 have HNP:=zk hnP
 clear hnP
 obtain⟨M,hM,hr⟩:=mk_rows nP hn
 clear h hp
 go_enter Tryz.func38,Tryz.ntmps38
 go_wp2_with fail
 have G0:=XK ((heap_alloc_old _ (.cells #[.slice none 0 0,.slice none 0 0] 62) (by simp)).trans (heap_alloc_new w (.cells #[.slice a nP c,.slice aK nK cK] 25)))
 have G1:((w.alloc (.cells #[.slice a nP c,.slice aK nK cK] 25)).alloc (.cells #[.slice none 0 0,.slice none 0 0] 62)).heap[w.heap.size+1]? =some (.cells #[.slice none 0 0,.slice none 0 0] 62):=by
  have:=heap_alloc_new (w.alloc (.cells #[.slice a nP c,.slice aK nK cK] 25)) (.cells #[.slice none 0 0,.slice none 0 0] 62)
  simpa using this
 have BW:=zk (((Below.refl w.heap.size w).alloc (Nat.le_refl _) (.cells #[.slice a nP c,.slice aK nK cK] 25)).alloc (by simp) (.cells #[.slice none 0 0,.slice none 0 0] 62))
 have hsz:((w.alloc (.cells #[.slice a nP c,.slice aK nK cK] 25)).alloc (.cells #[.slice none 0 0,.slice none 0 0] 62)).heap.size=w.heap.size+2:=by simp
 generalize (w.alloc (.cells #[.slice a nP c,.slice aK nK cK] 25)).alloc (.cells #[.slice none 0 0,.slice none 0 0] 62)=W at*
 have HH:=zk (hold2 G0 (by omega))
 have HG1:Hid (∀X,Below W.heap.size W X→X.heap[w.heap.size+1]? =some (.cells #[.slice none 0 0,.slice none 0 0] 62)):=fun X b=>(b.block _ (by omega)).trans G1
 have HLT:Hid (w.heap.size+1<W.heap.size):=(by omega:w.heap.size+1<W.heap.size)
 clear G1
 refine wp_region_held_drew (S:=(fun w'=>w'.cell? ⟨w.heap.size,0,none⟩=some (.slice a nP c)∧w'.cell? ⟨w.heap.size,1,none⟩=some (.slice aK nK cK))) (by kernel_rfl) G0 (fun hHeld=> ?_)
 refine tkh 0 ?_ rfl (by kernel_rfl) (fun _ _ _ h=>h) ?_ (by assumption) ?_
 rotate_left
 ·intro w hSw;obtain⟨y0,y1⟩:=hSw;go_simp;(try with_reducible rfl)
 refine tkh 1 ?_ rfl (by kernel_rfl) (fun _ _ _ h=>h) ?_ (by assumption) ?_
 rotate_left
 ·intro w hSw;obtain⟨y0,y1⟩:=hSw;go_simp;(try with_reducible rfl)
 refine tkh 2 ?_ rfl (by kernel_rfl) (fun _ _ _ h=>h) ?_ (by assumption) ?_
 rotate_left
 ·intro w hSw;obtain⟨y0,y1⟩:=hSw;go_simp;(try with_reducible rfl)
 refine tkh 4 ?_ rfl (by kernel_rfl) (fun _ _ _ h=>h) ?_ (by assumption) ?_
 rotate_left
 ·intro w hSw;obtain⟨y0,y1⟩:=hSw;go_simp;(try with_reducible rfl)
 refine tkh 5 ?_ rfl (by kernel_rfl) (fun _ _ _ h=>h) ?_ (by assumption) ?_
 rotate_left
 ·intro w hSw;obtain⟨y0,y1⟩:=hSw;go_simp;(try with_reducible rfl)
 refine tkh 6 ?_ rfl (by kernel_rfl) (fun _ _ _ h=>h) ?_ (by assumption) ?_
 rotate_left
 ·intro w hSw;obtain⟨y0,y1⟩:=hSw;go_simp;(try with_reducible rfl)
 refine wpAnyH_ready (rs:=[3,7,9]) (by kernel_rfl) (by simp) ?_
 refine AllReadyH.cons rfl (fun K hK=> ?_) (AllReadyH.cons rfl (fun K hK=> ?_) (AllReadyH.cons rfl (fun K hK=> ?_) AllReadyH.nil))
 go_simp
 refine hK.out _ _ (zq HH _ (by repeat (first|exact Below.refl _ _|refine Below.drew ?_|refine Below.alloc ?_ (by first|(simp;done)|(simp;omega)|omega) _))) (fun hHeld=> ?_)
 clear hK K
 refine wpAnyH_ready (rs:=[7,9]) (by kernel_rfl) (by simp) ?_
 refine AllReadyH.cons rfl (fun K hK=> ?_) (AllReadyH.cons rfl (fun K hK=> ?_) AllReadyH.nil)
 go_simp
 refine hK.out _ _ (zq HH _ (by repeat (first|exact Below.refl _ _|refine Below.drew ?_|refine Below.alloc ?_ (by first|(simp;done)|(simp;omega)|omega) _))) (fun hHeld=> ?_)
 clear hK K
 refine tkh 8 ?_ rfl (by kernel_rfl) (fun _ _ _ h=>h) ?_ (by assumption) ?_
 rotate_left
 ·intro w hSw;obtain⟨y0,y1⟩:=hSw;go_simp;(try with_reducible rfl)
 refine wpAnyH_ready (rs:=[9]) (by kernel_rfl) (by simp) ?_
 refine AllReadyH.cons rfl (fun K hK=> ?_) AllReadyH.nil
 go_simp
 refine hK.out _ _ (zq HH _ (by repeat (first|exact Below.refl _ _|refine Below.drew ?_|refine Below.alloc ?_ (by first|(simp;done)|(simp;omega)|omega) _))) (fun hHeld=> ?_)
 clear hK K
 refine wpAnyH_ready (rs:=[10]) (by kernel_rfl) (by simp) ?_
 refine AllReadyH.cons rfl (fun K hK=> ?_) AllReadyH.nil
 go_simp
 refine hK.out _ _ (zq HH _ (by repeat (first|exact Below.refl _ _|refine Below.drew ?_|refine Below.alloc ?_ (by first|(simp;done)|(simp;omega)|omega) _))) (fun hHeld=> ?_)
 clear hK K
 refine wpAnyH_done (by kernel_rfl) ?_ _
 obtain⟨A1,A2,A3⟩:=three (o1:=(.cells M 26)) (o2:=(.cells M 26)) (o3:=(.cells #[.slice (some ⟨w.heap.size+2,0,none⟩) nP nP,.slice (some ⟨w.heap.size+2+1,0,none⟩) nP nP] 62)) hsz
 have KX:KinX W (((W.alloc (.cells M 26)).alloc (.cells M 26)).alloc (.cells #[.slice (some ⟨w.heap.size+2,0,none⟩) nP nP,.slice (some ⟨w.heap.size+2+1,0,none⟩) nP nP] 62)) (w.heap.size+2) (w.heap.size+2+1) (w.heap.size+2+1+1) M nP:=⟨by first|exact A1|exact A2|exact A3,by first|exact A1|exact A2|exact A3,by first|exact A1|exact A2|exact A3,by omega,by omega,by omega,by omega,by omega,by omega,by repeat (first|exact Below.refl _ _|refine Below.alloc ?_ (by first|(simp;done)|(simp;omega)|omega) _)⟩
 obtain⟨y0,y1⟩:=zq HH _ KX.bel
 clear A1 A2 A3 hHeld
 have K0:Hid (KW W (P,K) (w.heap.size+2) (w.heap.size+2+1) (w.heap.size+2+1+1) nP 0 (((W.alloc (.cells M 26)).alloc (.cells M 26)).alloc (.cells #[.slice (some ⟨w.heap.size+2,0,none⟩) nP nP,.slice (some ⟨w.heap.size+2+1,0,none⟩) nP nP] 62))):=KW.zero KX hM
 clear KX
 generalize (((W.alloc (.cells M 26)).alloc (.cells M 26)).alloc (.cells #[.slice (some ⟨w.heap.size+2,0,none⟩) nP nP,.slice (some ⟨w.heap.size+2+1,0,none⟩) nP nP] 62))=X at*
 generalize w.heap.size+2+1+1=b at*
 generalize w.heap.size+2+1=go at*
 generalize w.heap.size+2=gl at*
 clear hsz
 rotate_left
 go_simp
 refine hK.out _ _ (zq HH _ (by repeat (first|exact Below.refl _ _|refine Below.drew ?_|refine Below.alloc ?_ (by first|(simp;done)|(simp;omega)|omega) _))) (fun hHeld=> ?_)
 clear hK K
 refine wpAnyH_ready (rs:=[7]) (by kernel_rfl) (by simp) ?_
 refine AllReadyH.cons rfl (fun K hK=> ?_) AllReadyH.nil
 go_simp
 refine hK.out _ _ (zq HH _ (by repeat (first|exact Below.refl _ _|refine Below.drew ?_|refine Below.alloc ?_ (by first|(simp;done)|(simp;omega)|omega) _))) (fun hHeld=> ?_)
 clear hK K
 refine tkh 8 ?_ rfl (by kernel_rfl) (fun _ _ _ h=>h) ?_ (by assumption) ?_
 rotate_left
 ·intro w hSw;obtain⟨y0,y1⟩:=hSw;go_simp;(try with_reducible rfl)
 refine wpAnyH_ready (rs:=[10]) (by kernel_rfl) (by simp) ?_
 refine AllReadyH.cons rfl (fun K hK=> ?_) AllReadyH.nil
 go_simp
 refine hK.out _ _ (zq HH _ (by repeat (first|exact Below.refl _ _|refine Below.drew ?_|refine Below.alloc ?_ (by first|(simp;done)|(simp;omega)|omega) _))) (fun hHeld=> ?_)
 clear hK K
 refine wpAnyH_done (by kernel_rfl) ?_ _
 obtain⟨A1,A2,A3⟩:=three (o1:=(.cells M 26)) (o2:=(.cells #[.slice (some ⟨w.heap.size+2,0,none⟩) nP nP,.slice (some ⟨w.heap.size+2+1+1,0,none⟩) nP nP] 62)) (o3:=(.cells M 26)) hsz
 have KX:KinX W (((W.alloc (.cells M 26)).alloc (.cells #[.slice (some ⟨w.heap.size+2,0,none⟩) nP nP,.slice (some ⟨w.heap.size+2+1+1,0,none⟩) nP nP] 62)).alloc (.cells M 26)) (w.heap.size+2) (w.heap.size+2+1+1) (w.heap.size+2+1) M nP:=⟨by first|exact A1|exact A2|exact A3,by first|exact A1|exact A2|exact A3,by first|exact A1|exact A2|exact A3,by omega,by omega,by omega,by omega,by omega,by omega,by repeat (first|exact Below.refl _ _|refine Below.alloc ?_ (by first|(simp;done)|(simp;omega)|omega) _)⟩
 obtain⟨y0,y1⟩:=zq HH _ KX.bel
 clear A1 A2 A3 hHeld
 have K0:Hid (KW W (P,K) (w.heap.size+2) (w.heap.size+2+1+1) (w.heap.size+2+1) nP 0 (((W.alloc (.cells M 26)).alloc (.cells #[.slice (some ⟨w.heap.size+2,0,none⟩) nP nP,.slice (some ⟨w.heap.size+2+1+1,0,none⟩) nP nP] 62)).alloc (.cells M 26))):=KW.zero KX hM
 clear KX
 generalize (((W.alloc (.cells M 26)).alloc (.cells #[.slice (some ⟨w.heap.size+2,0,none⟩) nP nP,.slice (some ⟨w.heap.size+2+1+1,0,none⟩) nP nP] 62)).alloc (.cells M 26))=X at*
 generalize w.heap.size+2+1+1=go at*
 generalize w.heap.size+2+1=b at*
 generalize w.heap.size+2=gl at*
 clear hsz
 rotate_left
 go_simp
 refine hK.out _ _ (zq HH _ (by repeat (first|exact Below.refl _ _|refine Below.drew ?_|refine Below.alloc ?_ (by first|(simp;done)|(simp;omega)|omega) _))) (fun hHeld=> ?_)
 clear hK K
 refine wpAnyH_ready (rs:=[3,9]) (by kernel_rfl) (by simp) ?_
 refine AllReadyH.cons rfl (fun K hK=> ?_) (AllReadyH.cons rfl (fun K hK=> ?_) AllReadyH.nil)
 go_simp
 refine hK.out _ _ (zq HH _ (by repeat (first|exact Below.refl _ _|refine Below.drew ?_|refine Below.alloc ?_ (by first|(simp;done)|(simp;omega)|omega) _))) (fun hHeld=> ?_)
 clear hK K
 refine tkh 8 ?_ rfl (by kernel_rfl) (fun _ _ _ h=>h) ?_ (by assumption) ?_
 rotate_left
 ·intro w hSw;obtain⟨y0,y1⟩:=hSw;go_simp;(try with_reducible rfl)
 refine wpAnyH_ready (rs:=[9]) (by kernel_rfl) (by simp) ?_
 refine AllReadyH.cons rfl (fun K hK=> ?_) AllReadyH.nil
 go_simp
 refine hK.out _ _ (zq HH _ (by repeat (first|exact Below.refl _ _|refine Below.drew ?_|refine Below.alloc ?_ (by first|(simp;done)|(simp;omega)|omega) _))) (fun hHeld=> ?_)
 clear hK K
 refine wpAnyH_ready (rs:=[10]) (by kernel_rfl) (by simp) ?_
 refine AllReadyH.cons rfl (fun K hK=> ?_) AllReadyH.nil
 go_simp
 refine hK.out _ _ (zq HH _ (by repeat (first|exact Below.refl _ _|refine Below.drew ?_|refine Below.alloc ?_ (by first|(simp;done)|(simp;omega)|omega) _))) (fun hHeld=> ?_)
 clear hK K
 refine wpAnyH_done (by kernel_rfl) ?_ _
 obtain⟨A1,A2,A3⟩:=three (o1:=(.cells M 26)) (o2:=(.cells M 26)) (o3:=(.cells #[.slice (some ⟨w.heap.size+2+1,0,none⟩) nP nP,.slice (some ⟨w.heap.size+2,0,none⟩) nP nP] 62)) hsz
 have KX:KinX W (((W.alloc (.cells M 26)).alloc (.cells M 26)).alloc (.cells #[.slice (some ⟨w.heap.size+2+1,0,none⟩) nP nP,.slice (some ⟨w.heap.size+2,0,none⟩) nP nP] 62)) (w.heap.size+2+1) (w.heap.size+2) (w.heap.size+2+1+1) M nP:=⟨by first|exact A1|exact A2|exact A3,by first|exact A1|exact A2|exact A3,by first|exact A1|exact A2|exact A3,by omega,by omega,by omega,by omega,by omega,by omega,by repeat (first|exact Below.refl _ _|refine Below.alloc ?_ (by first|(simp;done)|(simp;omega)|omega) _)⟩
 obtain⟨y0,y1⟩:=zq HH _ KX.bel
 clear A1 A2 A3 hHeld
 have K0:Hid (KW W (P,K) (w.heap.size+2+1) (w.heap.size+2) (w.heap.size+2+1+1) nP 0 (((W.alloc (.cells M 26)).alloc (.cells M 26)).alloc (.cells #[.slice (some ⟨w.heap.size+2+1,0,none⟩) nP nP,.slice (some ⟨w.heap.size+2,0,none⟩) nP nP] 62))):=KW.zero KX hM
 clear KX
 generalize (((W.alloc (.cells M 26)).alloc (.cells M 26)).alloc (.cells #[.slice (some ⟨w.heap.size+2+1,0,none⟩) nP nP,.slice (some ⟨w.heap.size+2,0,none⟩) nP nP] 62))=X at*
 generalize w.heap.size+2+1+1=b at*
 generalize w.heap.size+2+1=gl at*
 generalize w.heap.size+2=go at*
 clear hsz
 rotate_left
 go_simp
 refine hK.out _ _ (zq HH _ (by repeat (first|exact Below.refl _ _|refine Below.drew ?_|refine Below.alloc ?_ (by first|(simp;done)|(simp;omega)|omega) _))) (fun hHeld=> ?_)
 clear hK K
 refine wpAnyH_ready (rs:=[3]) (by kernel_rfl) (by simp) ?_
 refine AllReadyH.cons rfl (fun K hK=> ?_) AllReadyH.nil
 go_simp
 refine hK.out _ _ (zq HH _ (by repeat (first|exact Below.refl _ _|refine Below.drew ?_|refine Below.alloc ?_ (by first|(simp;done)|(simp;omega)|omega) _))) (fun hHeld=> ?_)
 clear hK K
 refine tkh 8 ?_ rfl (by kernel_rfl) (fun _ _ _ h=>h) ?_ (by assumption) ?_
 rotate_left
 ·intro w hSw;obtain⟨y0,y1⟩:=hSw;go_simp;(try with_reducible rfl)
 refine wpAnyH_ready (rs:=[10]) (by kernel_rfl) (by simp) ?_
 refine AllReadyH.cons rfl (fun K hK=> ?_) AllReadyH.nil
 go_simp
 refine hK.out _ _ (zq HH _ (by repeat (first|exact Below.refl _ _|refine Below.drew ?_|refine Below.alloc ?_ (by first|(simp;done)|(simp;omega)|omega) _))) (fun hHeld=> ?_)
 clear hK K
 refine wpAnyH_done (by kernel_rfl) ?_ _
 obtain⟨A1,A2,A3⟩:=three (o1:=(.cells M 26)) (o2:=(.cells #[.slice (some ⟨w.heap.size+2+1+1,0,none⟩) nP nP,.slice (some ⟨w.heap.size+2,0,none⟩) nP nP] 62)) (o3:=(.cells M 26)) hsz
 have KX:KinX W (((W.alloc (.cells M 26)).alloc (.cells #[.slice (some ⟨w.heap.size+2+1+1,0,none⟩) nP nP,.slice (some ⟨w.heap.size+2,0,none⟩) nP nP] 62)).alloc (.cells M 26)) (w.heap.size+2+1+1) (w.heap.size+2) (w.heap.size+2+1) M nP:=⟨by first|exact A1|exact A2|exact A3,by first|exact A1|exact A2|exact A3,by first|exact A1|exact A2|exact A3,by omega,by omega,by omega,by omega,by omega,by omega,by repeat (first|exact Below.refl _ _|refine Below.alloc ?_ (by first|(simp;done)|(simp;omega)|omega) _)⟩
 obtain⟨y0,y1⟩:=zq HH _ KX.bel
 clear A1 A2 A3 hHeld
 have K0:Hid (KW W (P,K) (w.heap.size+2+1+1) (w.heap.size+2) (w.heap.size+2+1) nP 0 (((W.alloc (.cells M 26)).alloc (.cells #[.slice (some ⟨w.heap.size+2+1+1,0,none⟩) nP nP,.slice (some ⟨w.heap.size+2,0,none⟩) nP nP] 62)).alloc (.cells M 26))):=KW.zero KX hM
 clear KX
 generalize (((W.alloc (.cells M 26)).alloc (.cells #[.slice (some ⟨w.heap.size+2+1+1,0,none⟩) nP nP,.slice (some ⟨w.heap.size+2,0,none⟩) nP nP] 62)).alloc (.cells M 26))=X at*
 generalize w.heap.size+2+1+1=gl at*
 generalize w.heap.size+2+1=b at*
 generalize w.heap.size+2=go at*
 clear hsz
 rotate_left
 go_simp
 refine hK.out _ _ (zq HH _ (by repeat (first|exact Below.refl _ _|refine Below.drew ?_|refine Below.alloc ?_ (by first|(simp;done)|(simp;omega)|omega) _))) (fun hHeld=> ?_)
 clear hK K
 refine wpAnyH_ready (rs:=[3,7]) (by kernel_rfl) (by simp) ?_
 refine AllReadyH.cons rfl (fun K hK=> ?_) (AllReadyH.cons rfl (fun K hK=> ?_) AllReadyH.nil)
 go_simp
 refine hK.out _ _ (zq HH _ (by repeat (first|exact Below.refl _ _|refine Below.drew ?_|refine Below.alloc ?_ (by first|(simp;done)|(simp;omega)|omega) _))) (fun hHeld=> ?_)
 clear hK K
 refine wpAnyH_ready (rs:=[7]) (by kernel_rfl) (by simp) ?_
 refine AllReadyH.cons rfl (fun K hK=> ?_) AllReadyH.nil
 go_simp
 refine hK.out _ _ (zq HH _ (by repeat (first|exact Below.refl _ _|refine Below.drew ?_|refine Below.alloc ?_ (by first|(simp;done)|(simp;omega)|omega) _))) (fun hHeld=> ?_)
 clear hK K
 refine tkh 8 ?_ rfl (by kernel_rfl) (fun _ _ _ h=>h) ?_ (by assumption) ?_
 rotate_left
 ·intro w hSw;obtain⟨y0,y1⟩:=hSw;go_simp;(try with_reducible rfl)
 refine wpAnyH_ready (rs:=[10]) (by kernel_rfl) (by simp) ?_
 refine AllReadyH.cons rfl (fun K hK=> ?_) AllReadyH.nil
 go_simp
 refine hK.out _ _ (zq HH _ (by repeat (first|exact Below.refl _ _|refine Below.drew ?_|refine Below.alloc ?_ (by first|(simp;done)|(simp;omega)|omega) _))) (fun hHeld=> ?_)
 clear hK K
 refine wpAnyH_done (by kernel_rfl) ?_ _
 obtain⟨A1,A2,A3⟩:=three (o1:=(.cells #[.slice (some ⟨w.heap.size+2+1,0,none⟩) nP nP,.slice (some ⟨w.heap.size+2+1+1,0,none⟩) nP nP] 62)) (o2:=(.cells M 26)) (o3:=(.cells M 26)) hsz
 have KX:KinX W (((W.alloc (.cells #[.slice (some ⟨w.heap.size+2+1,0,none⟩) nP nP,.slice (some ⟨w.heap.size+2+1+1,0,none⟩) nP nP] 62)).alloc (.cells M 26)).alloc (.cells M 26)) (w.heap.size+2+1) (w.heap.size+2+1+1) (w.heap.size+2) M nP:=⟨by first|exact A1|exact A2|exact A3,by first|exact A1|exact A2|exact A3,by first|exact A1|exact A2|exact A3,by omega,by omega,by omega,by omega,by omega,by omega,by repeat (first|exact Below.refl _ _|refine Below.alloc ?_ (by first|(simp;done)|(simp;omega)|omega) _)⟩
 obtain⟨y0,y1⟩:=zq HH _ KX.bel
 clear A1 A2 A3 hHeld
 have K0:Hid (KW W (P,K) (w.heap.size+2+1) (w.heap.size+2+1+1) (w.heap.size+2) nP 0 (((W.alloc (.cells #[.slice (some ⟨w.heap.size+2+1,0,none⟩) nP nP,.slice (some ⟨w.heap.size+2+1+1,0,none⟩) nP nP] 62)).alloc (.cells M 26)).alloc (.cells M 26))):=KW.zero KX hM
 clear KX
 generalize (((W.alloc (.cells #[.slice (some ⟨w.heap.size+2+1,0,none⟩) nP nP,.slice (some ⟨w.heap.size+2+1+1,0,none⟩) nP nP] 62)).alloc (.cells M 26)).alloc (.cells M 26))=X at*
 generalize w.heap.size+2+1+1=go at*
 generalize w.heap.size+2+1=gl at*
 generalize w.heap.size+2=b at*
 clear hsz
 rotate_left
 go_simp
 refine hK.out _ _ (zq HH _ (by repeat (first|exact Below.refl _ _|refine Below.drew ?_|refine Below.alloc ?_ (by first|(simp;done)|(simp;omega)|omega) _))) (fun hHeld=> ?_)
 clear hK K
 refine wpAnyH_ready (rs:=[3]) (by kernel_rfl) (by simp) ?_
 refine AllReadyH.cons rfl (fun K hK=> ?_) AllReadyH.nil
 go_simp
 refine hK.out _ _ (zq HH _ (by repeat (first|exact Below.refl _ _|refine Below.drew ?_|refine Below.alloc ?_ (by first|(simp;done)|(simp;omega)|omega) _))) (fun hHeld=> ?_)
 clear hK K
 refine tkh 8 ?_ rfl (by kernel_rfl) (fun _ _ _ h=>h) ?_ (by assumption) ?_
 rotate_left
 ·intro w hSw;obtain⟨y0,y1⟩:=hSw;go_simp;(try with_reducible rfl)
 refine wpAnyH_ready (rs:=[10]) (by kernel_rfl) (by simp) ?_
 refine AllReadyH.cons rfl (fun K hK=> ?_) AllReadyH.nil
 go_simp
 refine hK.out _ _ (zq HH _ (by repeat (first|exact Below.refl _ _|refine Below.drew ?_|refine Below.alloc ?_ (by first|(simp;done)|(simp;omega)|omega) _))) (fun hHeld=> ?_)
 clear hK K
 refine wpAnyH_done (by kernel_rfl) ?_ _
 obtain⟨A1,A2,A3⟩:=three (o1:=(.cells #[.slice (some ⟨w.heap.size+2+1+1,0,none⟩) nP nP,.slice (some ⟨w.heap.size+2+1,0,none⟩) nP nP] 62)) (o2:=(.cells M 26)) (o3:=(.cells M 26)) hsz
 have KX:KinX W (((W.alloc (.cells #[.slice (some ⟨w.heap.size+2+1+1,0,none⟩) nP nP,.slice (some ⟨w.heap.size+2+1,0,none⟩) nP nP] 62)).alloc (.cells M 26)).alloc (.cells M 26)) (w.heap.size+2+1+1) (w.heap.size+2+1) (w.heap.size+2) M nP:=⟨by first|exact A1|exact A2|exact A3,by first|exact A1|exact A2|exact A3,by first|exact A1|exact A2|exact A3,by omega,by omega,by omega,by omega,by omega,by omega,by repeat (first|exact Below.refl _ _|refine Below.alloc ?_ (by first|(simp;done)|(simp;omega)|omega) _)⟩
 obtain⟨y0,y1⟩:=zq HH _ KX.bel
 clear A1 A2 A3 hHeld
 have K0:Hid (KW W (P,K) (w.heap.size+2+1+1) (w.heap.size+2+1) (w.heap.size+2) nP 0 (((W.alloc (.cells #[.slice (some ⟨w.heap.size+2+1+1,0,none⟩) nP nP,.slice (some ⟨w.heap.size+2+1,0,none⟩) nP nP] 62)).alloc (.cells M 26)).alloc (.cells M 26))):=KW.zero KX hM
 clear KX
 generalize (((W.alloc (.cells #[.slice (some ⟨w.heap.size+2+1+1,0,none⟩) nP nP,.slice (some ⟨w.heap.size+2+1,0,none⟩) nP nP] 62)).alloc (.cells M 26)).alloc (.cells M 26))=X at*
 generalize w.heap.size+2+1+1=gl at*
 generalize w.heap.size+2+1=go at*
 generalize w.heap.size+2=b at*
 clear hsz
 rotate_left
 all_goals (
  go_wp2_with fail
  go_loopw [19] (fun i wr=>∃k:Nat,k≤nP∧i= .int .i64 (k:Int)∧Hid (KW W (P,K) gl go b nP k wr)) (fun i _=>nP-(intOf i).toNat)
  case atStart=>exact⟨0,Nat.zero_le _,rfl,(zq K0).later (Below.refl _ _).drew⟩
  case round=>
   clear K0
   obtain⟨k,hk,rfl,hI⟩:=hrel
   obtain⟨y0,y1⟩:=zq HH _ (zq hI).bel
   obtain⟨z0,z1⟩:=XK (zq hI).bk
   by_cases hlt:k<nP
   ·obtain⟨p,hp⟩:∃p,P[k]? =some p:=⟨P[k]'(by have:=zq HNP;omega),List.getElem?_eq_getElem _⟩
    have hsz:=(zq hI).bel.size
    have CL2:=zk (fun X (bX:Below wr.heap.size wr X)=>zq CL X (((zq BW).trans ((zq hI).bel.mono (zq BW).size)).trans (bX.mono (by have:=(zq BW).size;omega))) k p hp)
    go_wp2_with fail
    go_region_held3 (fun w'=>w'.cell? ⟨b,0,none⟩=some (.slice (some ⟨gl,0,none⟩) nP nP)∧w'.cell? ⟨w.heap.size,0,none⟩=some (.slice a nP c)∧w'.cell? ⟨w.heap.size,1,none⟩=some (.slice aK nK cK))
     (first|exact⟨z0,y0,y1⟩|exact⟨(XK (zq KW5).bk).1,zq HH _ (zq KW5).bel⟩|exact⟨(XK (zq KJ5).bk).1,zq HH _ (zq KJ5).bel⟩)
     ((go_at_call 24;refine(zq CL2 _ T.zX).mono ?_;rintro e w5 ⟨v5,l5,rfl,i5,p5,m5,b5⟩;obtain⟨a5,c5,rfl,h5a,h5b,-⟩:=inv_nsB i5 (Nat.le_refl _);have L5:l5.length≤9223372036854775807:=Nat.le_trans h5a h5b;clear h5a h5b;obtain⟨u5,q5,f5,KW5,KJ5⟩:=KW.put hI hlt (Xk T.zX b5) i5 p5 m5;clear i5 p5 m5 b5))
    all_goals (generalize hW5:w5.setCell ⟨gl,k,none⟩ (.slice a5 l5.length c5)=W5 at*)
    all_goals clear hW5 q5 f5 KW5 CL2 hI y0 y1 z0 z1 hsz
    all_goals (have r5:=KJ.row KJ5 hlt)
    all_goals (obtain⟨z0,z1⟩:=XK (zq KJ5).bk)
    all_goals (go_wp2_with fail)
    all_goals (
     go_loopw [35] (fun i wr=>∃q:Nat,q≤l5.length∧i= .int .i64 (q:Int)∧Hid (KJ W (P,K) gl go b nP k (.slice a5 l5.length c5) l5 q wr)) (fun i _=>l5.length-(intOf i).toNat)
     case atStart=>exact⟨0,Nat.zero_le _,rfl,KJ5⟩
     case round=>
      clear KJ5 r5 z0 z1
      obtain⟨q,hq,rfl,hJ⟩:=hrel
      obtain⟨z0,z1⟩:=XK (zq hJ).bk
      by_cases hq2:q<l5.length
      ·obtain⟨m,hm,hmn,g5,o5,rfl,hc⟩:=KJ.elt hg (zq HNP) hJ hq2
       obtain⟨au,nu,cu,hU,hOF⟩:=KJ.of hJ hlt hn hm hmn
       have HU:=zk hU
       have HOF:=zk hOF
       have c7:=hU wr (Below.refl _ _)
       have HZ:Hid (∀X,Below wr.heap.size wr X→X.cell? ⟨b,1,none⟩=some (.slice (some ⟨go,0,none⟩) nP nP)):=fun X bX=>(XK ((bX.block _ (Array.getElem?_eq_some_iff.1 (zq hJ).bk).1).trans (zq hJ).bk)).2
       clear hU hOF hm
       go_wp2_with fail
       refine wp_region_held_drew (S:=(fun w'=>w'.cell? ⟨b,1,none⟩=some (.slice (some ⟨go,0,none⟩) nP nP))) (by kernel_rfl) z1 (fun hHeld=> ?_)
       refine tkh 0 ?_ rfl (by kernel_rfl) (fun _ _ _ h=>h) ?_ (by assumption) ?_
       rotate_left
       ·intro w hSw;go_simp;(try with_reducible rfl)
       refine tkh 1 ?_ rfl (by kernel_rfl) (fun _ _ _ h=>h) ?_ (by assumption) ?_
       rotate_left
       ·intro w hSw;go_simp;(try with_reducible rfl)
       refine tkh 2 ?_ rfl (by kernel_rfl) (fun _ _ _ h=>h) ?_ (by assumption) ?_
       rotate_left
       ·intro w hSw;go_simp;(try with_reducible rfl)
       refine tkh 3 ?_ rfl (by kernel_rfl) (fun _ _ _ h=>h) ?_ (by assumption) ?_
       rotate_left
       ·intro w hSw;go_simp;(try with_reducible rfl)
       refine tkh 4 ?_ rfl (by kernel_rfl) (fun _ _ _ h=>h) ?_ (by assumption) ?_
       rotate_left
       ·intro w hSw;go_simp;(try with_reducible rfl)
       refine tkh 5 ?_ rfl (by kernel_rfl) (fun _ _ _ h=>h) ?_ (by assumption) ?_
       rotate_left
       ·intro w hSw;go_simp;(try with_reducible rfl)
       refine tkh 6 ?_ rfl (by kernel_rfl) (fun _ _ _ h=>h) ?_ (by assumption) ?_
       rotate_left
       ·intro w hSw;go_simp;(try with_reducible rfl)
       refine tkh 8 ?_ rfl (by kernel_rfl) (fun _ _ _ h=>h) ?_ (by assumption) ?_
       rotate_left
       ·intro w hSw;go_simp;(try with_reducible rfl)
       refine wpAnyH_ready (rs:=[7,9]) (by kernel_rfl) (by simp) ?_
       refine AllReadyH.cons rfl (fun K hK=> ?_) (AllReadyH.cons rfl (fun K hK=> ?_) AllReadyH.nil)
       go_simp
       refine hK.out _ _ (zq HZ _ (by repeat (first|exact Below.refl _ _|refine Below.drew ?_))) (fun hHeld=> ?_)
       clear hK K
       refine wpAnyH_ready (rs:=[9]) (by kernel_rfl) (by simp) ?_
       refine AllReadyH.cons rfl (fun K hK=> ?_) AllReadyH.nil
       go_simp
       refine hK.out _ _ (zq HZ _ (by repeat (first|exact Below.refl _ _|refine Below.drew ?_|refine Below.alloc ?_ (Nat.le_refl _) _))) (fun hHeld=> ?_)
       clear hK K
       refine wpAnyH_ready (rs:=[10]) (by kernel_rfl) (by simp) ?_
       refine AllReadyH.cons rfl (fun K hK=> ?_) AllReadyH.nil
       obtain⟨a',n',c',w7,hap,q7,f7,z7,J7⟩:=zq HOF ((wr.alloc (.cells #[.int .i64 (k:Int)] 3)).drew) (Below.new1 _).drew wr.heap.size (heap_alloc_new wr _)
       refine app_stepk rfl _ _ 26 26 rfl rfl _ _ rfl rfl hap ?_
       refine hK.out _ _ z7 (fun hHeld=> ?_)
       clear hK K hap
       try simp only[Act.put,List.getElem_toArray,List.getElem_cons_succ,List.getElem_cons_zero,List.setIfInBounds_toArray,List.set_cons_zero,List.set_cons_succ]
       refine tkh 11 ?_ rfl (by kernel_rfl) (fun _ _ _ h=>h) ?_ (by assumption) ?_
       rotate_left
       ·intro w hSw;go_simp;(try with_reducible rfl)
       refine wpAnyH_ready (rs:=[12]) (by kernel_rfl) (by simp) ?_
       refine AllReadyH.cons rfl (fun K hK=> ?_) AllReadyH.nil
       go_simp
       refine hK.out _ _ (XK (zq J7).bk).2 (fun hHeld=> ?_)
       clear hK K
       refine wpAnyH_done (by kernel_rfl) ?_ _
       clear q7 f7 z7 hHeld
       rotate_left
       go_simp
       refine hK.out _ _ (zq HZ _ (by repeat (first|exact Below.refl _ _|refine Below.drew ?_|refine Below.alloc ?_ (Nat.le_refl _) _))) (fun hHeld=> ?_)
       clear hK K
       refine wpAnyH_ready (rs:=[7]) (by kernel_rfl) (by simp) ?_
       refine AllReadyH.cons rfl (fun K hK=> ?_) AllReadyH.nil
       have c8:=zq HU (wr.alloc (.cells #[.int .i64 (k:Int)] 3)) (Below.new1 _)
       go_simp
       refine hK.out _ _ (zq HZ _ (by repeat (first|exact Below.refl _ _|refine Below.drew ?_|refine Below.alloc ?_ (Nat.le_refl _) _))) (fun hHeld=> ?_)
       clear hK K
       refine wpAnyH_ready (rs:=[10]) (by kernel_rfl) (by simp) ?_
       refine AllReadyH.cons rfl (fun K hK=> ?_) AllReadyH.nil
       obtain⟨a',n',c',w7,hap,q7,f7,z7,J7⟩:=zq HOF ((wr.alloc (.cells #[.int .i64 (k:Int)] 3)).drew) (Below.new1 _).drew wr.heap.size (heap_alloc_new wr _)
       refine app_stepk rfl _ _ 26 26 rfl rfl _ _ rfl rfl hap ?_
       refine hK.out _ _ z7 (fun hHeld=> ?_)
       clear hK K hap
       try simp only[Act.put,List.getElem_toArray,List.getElem_cons_succ,List.getElem_cons_zero,List.setIfInBounds_toArray,List.set_cons_zero,List.set_cons_succ]
       refine tkh 11 ?_ rfl (by kernel_rfl) (fun _ _ _ h=>h) ?_ (by assumption) ?_
       rotate_left
       ·intro w hSw;go_simp;(try with_reducible rfl)
       refine wpAnyH_ready (rs:=[12]) (by kernel_rfl) (by simp) ?_
       refine AllReadyH.cons rfl (fun K hK=> ?_) AllReadyH.nil
       go_simp
       refine hK.out _ _ (XK (zq J7).bk).2 (fun hHeld=> ?_)
       clear hK K
       refine wpAnyH_done (by kernel_rfl) ?_ _
       clear q7 f7 z7 hHeld
       rotate_left
       all_goals (go_wp2_with fail)
       all_goals exact⟨⟨q+1,by omega,by simp,J7⟩,by simp[intOf];omega⟩
      ·obtain rfl:q=l5.length:=by omega
       have DN:=KJ.done hJ
       go_wp2_with fail
       go_roundw
       case rel=>exact⟨k+1,by omega,by simp,DN⟩
       case measure=>simp[intOf];omega
    )
   ·obtain rfl:k=nP:=by omega
    have G1:=zq HG1 _ (zq hI).bel
    have G1s:=(Array.getElem?_eq_some_iff.1 G1).1
    obtain⟨x0,x1⟩:=XK G1
    have xz0:wr.frozen? ⟨w.heap.size+1,0,none⟩=false:=by simp[World.frozen?,G1]
    have xz1:wr.frozen? ⟨w.heap.size+1,1,none⟩=false:=by simp[World.frozen?,G1]
    clear y0 y1
    go_wp2_with fail
    refine bodyPost_ret (v:= .agg #[.slice (some ⟨gl,0,none⟩) k k,.slice (some ⟨go,0,none⟩) k k]) ?_ rfl ?_
    ·have f0:=heap_setCell_same _ (w.heap.size+1) 1 _ _ (.slice (some ⟨go,0,none⟩) k k) (heap_setCell_same _ (w.heap.size+1) 0 _ _ (.slice (some ⟨gl,0,none⟩) k k) G1)
     exact results_cell_row rfl _ _ (w.heap.size+1) _ _ _ _ rfl f0 Tryz.underlying62 rfl (by kernel_rfl)
    ·refine KW.fin hg (zq HNP) hn hI (fun i hi=> ?_) ?_
     ·have:=zq HLT
      rw[heap_setCell_other _ _ _ _ (show i≠w.heap.size+1 by omega),heap_setCell_other _ _ _ _ (show i≠w.heap.size+1 by omega)]
     ·exact(((zq BW).trans ((zq hI).bel.mono (zq BW).size)).setCell (p:=⟨w.heap.size+1,0,none⟩) (Nat.le_succ _) _).setCell (p:=⟨w.heap.size+1,1,none⟩) (Nat.le_succ _) _
 )
def Lc (g:GR) (n:Nat) (x:Int):Prop:=∃k,lc g k n x
theorem left_lt {g:GR} {m:Nat} {x:Int} (h:leftP g (m:Int) x):m<g.1.length:=by
 obtain⟨-,i,p,a,e,hi,-⟩:=h
 obtain rfl:m=i:=by omega
 exact(List.getElem?_eq_some_iff.1 hi).1
theorem lc_iff {g:GR} {L:List (List Int)} (hl:L.length=g.1.length) (h:∀m:Nat,m<g.1.length→∀x,x∈L.getD m []↔leftP g (m:Int) x) (n:Nat) (x:Int):Cms L n x↔Lc g n x:=by
 have h2:∀(m:Nat) x,x∈L.getD m []↔leftP g (m:Int) x:=fun m x=>by
  by_cases hm:m<g.1.length
  ·exact h m hm x
  ·constructor
   ·intro c
    rw[List.getD_eq_getElem?_getD,List.getElem?_eq_none (by omega)]at c
    cases c
   ·intro c;exact absurd (left_lt c) hm
 have key:∀(k n:Nat) (x:Int),cm L k n x↔lc g k n x:=by
  intro k
  induction k with
  |zero=>intro n x;exact h2 n x
  |succ k ih=>
   intro n x
   unfold cm lc
   exact⟨fun⟨m,a,b⟩=>⟨m,(ih n m).1 a,(h2 m x).1 b⟩,fun⟨m,a,b⟩=>⟨m,(ih n m).2 a,(h2 m x).2 b⟩⟩
 exact⟨fun⟨k,hk⟩=>⟨k,(key k n x).1 hk⟩,fun⟨k,hk⟩=>⟨k,(key k n x).2 hk⟩⟩
theorem lc_lt {g:GR} {n:Nat} {x:Int} (h:Lc g n x):n<g.1.length:=by
 have key:∀(k n:Nat) (x:Int),lc g k n x→n<g.1.length:=by
  intro k
  induction k with
  |zero=>intro n x h;exact left_lt h
  |succ k ih=>intro n x ⟨m,a,_⟩;exact ih n m a
 obtain⟨k,h⟩:=h
 exact key k n x h
structure OrP (g:GR) (out:List Int):Prop where
 len:out.length=g.1.length
 nd:out.Nodup
 rng:∀y∈out,∃m:Nat,y=(m:Int)∧m<g.1.length
 ord:∀(i m:Nat),out[i]? =some (m:Int)→∀y,leftP g (m:Int) y→y∈out.take i
 least:∀(i m:Nat),out[i]? =some (m:Int)→∀k:Nat,k<g.1.length→(k:Int)∉out.take i→(∀y,leftP g (k:Int) y→y∈out.take i)→m≤k
theorem order_n (n gl go:Nat) (L O:List (List Int)) (w:World) (hl:L.length=n) (hL:KvB w.heap.size w (.slice (some ⟨gl,0,none⟩) n n) L) (hO:KvB w.heap.size w (.slice (some ⟨go,0,none⟩) n n) O) (hK:Kin L O n) (hl0:∀m,(L.getD m []).length≤1000) (hn:n≤400000):
  Calls Tryz.prog 39 #[.agg #[.slice (some ⟨gl,0,none⟩) n n,.slice (some ⟨go,0,none⟩) n n]] w fun e w'=>∃(v':Value) (out S:List Int),e= .returned v'∧w'.ownsRow w.heap.size 3 1 v' out.length (out.map (Value.int .i64))∧OrI L n S [] out∧Below w.heap.size w w':=by
 subst hl
 exact order_l _ _ _ _ L O w hL hO hK hl0 hn
def OrdR (w:World) (g:GR) (e:Ending) (w':World):Prop:=Below w.heap.size w w'∧((gramB g.1=false∧e= .returned (.tuple #[.slice none 0 0,.bool false]))∨
 (gramB g.1=true∧(∃q:Nat,Lc g q (q:Int))∧e= .returned (.tuple #[.slice none 0 0,.bool false]))∨
 (gramB g.1=true∧(∀q:Nat,¬Lc g q (q:Int))∧∃v' out,e= .returned (.tuple #[v',.bool true])∧InV w' w.heap.size v' out∧OrP g out))
theorem ordP {g:GR} {L O:List (List Int)} {S out:List Int} (hK:Kin L O g.1.length) (h:∀m:Nat,m<g.1.length→∀x,x∈L.getD m []↔leftP g (m:Int) x) (hI:OrI L g.1.length S [] out) (hl:g.1.length≤out.length):OrP g out∧∀q:Nat,¬Lc g q (q:Int):=by
 have e:out++[]=out:=List.append_nil _
 have hs:=hI.small
 rw[List.length_nil]at hs
 have hnd:=hI.nd
 rw[e]at hnd
 have hr:=hI.rng
 rw[e]at hr
 refine⟨⟨by omega,hnd,hr,fun i m hi y hy=> ?_,fun i m hi k hk hn hy=>hI.least i m hi k hk hn (fun y hy2=>hy y ((h k hk y).1 hy2))⟩,fun q hq=> ?_⟩
 ·exact hI.ord i m hi y ((h m (left_lt hy) y).2 hy)
 ·have hqn:=lc_lt hq
  have hin:(q:Int)∈out:=by
   apply Classical.byContradiction
   intro hno
   have:=nd_len g.1.length ((q:Int)::out) (List.nodup_cons.2 ⟨hno,hnd⟩) (fun y hy=>by
    rcases List.mem_cons.1 hy with rfl|hy
    ·exact⟨q,rfl,hqn⟩
    ·exact hr y hy)
   rw[List.length_cons]at this;omega
  exact hI.noCircle hin ((lc_iff hK.ll h q q).2 hq)
theorem cirP {g:GR} {L O:List (List Int)} {S out:List Int} (hK:Kin L O g.1.length) (h:∀m:Nat,m<g.1.length→∀x,x∈L.getD m []↔leftP g (m:Int) x) (hI:OrI L g.1.length S [] out) (hl:out.length<g.1.length):∃q:Nat,Lc g q (q:Int):=by
 obtain⟨q,-,hq⟩:=circle_of hK hI hl
 exact⟨q,(lc_iff hK.ll h q q).1 hq⟩
theorem Order_l (v:Value) (g:GR) (w:World) (h:GrM w v g):Calls Tryz.prog 16 #[v] w fun e w'=>OrdR w g e w':=by
 have CM:=zk (fun W (bW:Below w.heap.size w W)=>fMayM_l v g W (h.later bW))
 obtain⟨a,c,aK,cK,rfl,hp,-⟩:=id h
 cases hg:gramB g.1 with
 |false=>
  rw[hg]at CM
  have FIN:∀W,Below w.heap.size w W→OrdR w g (.returned (.tuple #[.slice none 0 0,.bool false])) W:=fun W b=>⟨b,.inl ⟨hg,rfl⟩⟩
  have HF:=zk FIN
  clear FIN hp h
  generalize g.1.length=nP at*
  generalize g.2.length=nK at*
  clear hg
  go_enter Tryz.func16,Tryz.ntmps16
  go_wp2_with fail
  refine(zq CM _ (Below.new1 _)).mono ?_
  rintro e w1 ⟨rfl,b1⟩
  clear CM
  go_wp2_with fail
  go_ret2
  exact zq HF _ (Xk (Below.new1 _) b1)
 |true=>
  rw[hg]at CM
  have h60:=(gram_ok hg).2.1
  have CK:=zk (fun W (bW:Below w.heap.size w W)=>kinOf_l _ g W (h.later bW) hg (by omega))
  have F1:∀L O S out W,Below w.heap.size w W→Kin L O g.1.length→(∀m:Nat,m<g.1.length→∀x,x∈L.getD m []↔leftP g (m:Int) x)→OrI L g.1.length S [] out→out.length<g.1.length→OrdR w g (.returned (.tuple #[.slice none 0 0,.bool false])) W:=
   fun L O S out W b h1 h2 h3 h4=>⟨b,.inr (.inl ⟨hg,cirP h1 h2 h3 h4,rfl⟩)⟩
  have F2:∀L O S out v' W,Below w.heap.size w W→Kin L O g.1.length→(∀m:Nat,m<g.1.length→∀x,x∈L.getD m []↔leftP g (m:Int) x)→OrI L g.1.length S [] out→g.1.length≤out.length→InV W w.heap.size v' out→OrdR w g (.returned (.tuple #[v',.bool true])) W:=
   fun L O S out v' W b h1 h2 h3 h4 h5=>⟨b,.inr (.inr ⟨hg,(ordP h1 h2 h3 h4).2,v',out,rfl,h5,(ordP h1 h2 h3 h4).1⟩)⟩
  have HF1:=zk F1
  have HF2:=zk F2
  clear F1 F2 hp h
  generalize hnP:g.1.length=nP at*
  generalize g.2.length=nK at*
  clear hg hnP
  go_enter Tryz.func16,Tryz.ntmps16
  go_wp2_with fail
  have G0:=heap_alloc_new w (.cells #[.slice a nP c,.slice aK nK cK] 25)
  refine(zq CM _ (Below.new1 _)).mono ?_
  rintro e w1 ⟨rfl,b1⟩
  have G1:=(b1.block _ (Array.getElem?_eq_some_iff.1 G0).1).trans G0
  obtain⟨y0,y1⟩:=XK G1
  have B1:=zk (Xk (Below.new1 _) b1)
  clear CM b1 G0
  go_wp2_with fail
  refine(zq CK _ (zq B1)).mono ?_
  rintro e w2 ⟨gl,go,L,O,rfl,hL,hO,hK,hl,hm,b2⟩
  have G2:=(b2.block _ (Array.getElem?_eq_some_iff.1 G1).1).trans G1
  have B2:=zk (Xk (zq B1) b2)
  have CO:=zk (order_n nP gl go L O w2 hK.ll hL hO hK (fun m=>Nat.le_trans (hl m) (by omega)) (by omega))
  have HK:=zk hK
  have HM:=zk hm
  clear CK B1 y0 y1 b2 G1 hL hO hK hl hm
  go_wp2_with fail
  refine(zq CO).mono ?_
  rintro e w3 ⟨v',out,S,rfl,own,hI,b3⟩
  have G3:=(b3.block _ (Array.getElem?_eq_some_iff.1 G2).1).trans G2
  obtain⟨y0,y1⟩:=XK G3
  have B3:=zk (Xk (zq B2) b3)
  obtain⟨a',c',rfl,-,-,-⟩:=inv_nsB (show InV w3 w2.heap.size v' out from own) (Nat.le_refl _)
  have OW:=zk (Xi own (zq B2).size)
  have HI:=zk hI
  have hsm:=hI.small
  rw[List.length_nil]at hsm
  clear CO G2 own hI b3
  by_cases hlt:out.length<nP
  ·have bt:decide (out.length<nP)=true:=decide_eq_true hlt
   have HL:=zk hlt
   clear hlt
   go_wp2_with fail
   go_ret2
   exact zq HF1 L O S out _ (zq B3) (zq HK) (zq HM) (zq HI) (zq HL)
  ·have bt:decide (out.length<nP)=false:=decide_eq_false hlt
   have HL:=zk (Nat.le_of_not_lt hlt)
   clear hlt
   go_wp2_with fail
   go_ret2
   exact zq HF2 L O S out _ _ (zq B3) (zq HK) (zq HM) (zq HI) (zq HL) (zq OW)
def CirR (w:World) (g:GR) (e:Ending) (w':World):Prop:=Below w.heap.size w w'∧∃R:Int,e= .returned (.int .i64 R)∧((R= -1∧(gramB g.1=true→∀q:Nat,¬Lc g q (q:Int)))∨(gramB g.1=true∧∃k:Nat,k<g.1.length∧R=(k:Int)∧Lc g k (k:Int)∧∀j,j<k→¬Lc g j (j:Int)))
theorem isCircle_n (n gl go q:Nat) (L O:List (List Int)) (w:World) (hl:L.length=n) (hL:KvB w.heap.size w (.slice (some ⟨gl,0,none⟩) n n) L) (hin:InN L n) (hl0:∀l∈L,l.length≤1000) (hn:n≤900000) (hq:q<n):
  Calls Tryz.prog 47 #[.agg #[.slice (some ⟨gl,0,none⟩) n n,.slice (some ⟨go,0,none⟩) n n],.int .i64 (q:Int)] w fun e w'=>∃r:Bool,e= .returned (.bool r)∧(r=true↔Cms L q (q:Int))∧Below w.heap.size w w':=by
 subst hl
 exact isCircle_l q _ _ _ _ _ L w hL hin hl0 hn hq
theorem Circle_l (v:Value) (g:GR) (w:World) (h:GrM w v g):Calls Tryz.prog 21 #[v] w fun e w'=>CirR w g e w':=by
 have CM:=zk (fun W (bW:Below w.heap.size w W)=>fMayM_l v g W (h.later bW))
 obtain⟨a,c,aK,cK,rfl,hp,-⟩:=id h
 cases hg:gramB g.1 with
 |false=>
  rw[hg]at CM
  have HF:Hid (∀W,Below w.heap.size w W→CirR w g (.returned (.int .i64 (-1))) W):=fun W b=>⟨b,-1,rfl,.inl ⟨rfl,fun c=>by rw[hg]at c;cases c⟩⟩
  clear hp h
  generalize g.1.length=nP at*
  generalize g.2.length=nK at*
  clear hg
  go_enter Tryz.func21,Tryz.ntmps21
  go_wp2_with fail
  refine(zq CM _ (Below.new1 _)).mono ?_
  rintro e w1 ⟨rfl,b1⟩
  clear CM
  go_wp2_with fail
  go_ret
  exact zq HF _ (Xk (Below.new1 _) b1)
 |true=>
  rw[hg]at CM
  have h60:=(gram_ok hg).2.1
  have CK:=zk (fun W (bW:Below w.heap.size w W)=>kinOf_l _ g W (h.later bW) hg (by omega))
  have HF:Hid (∀L O W (R:Int),Below w.heap.size w W→Kin L O g.1.length→(∀m:Nat,m<g.1.length→∀x,x∈L.getD m []↔leftP g (m:Int) x)→((R= -1∧∀k,k<g.1.length→¬Cms L k (k:Int))∨∃k:Nat,k<g.1.length∧R=k∧Cms L k (k:Int)∧∀j,j<k→¬Cms L j (j:Int))→CirR w g (.returned (.int .i64 R)) W):=by
   intro L O W R b h1 h2 h3
   refine⟨b,R,rfl,?_⟩
   have hi:=lc_iff h1.ll h2
   rcases h3 with ⟨e,h3⟩|⟨k,hk,e,h3,h4⟩
   ·exact .inl ⟨e,fun _ q hq=>h3 q (lc_lt hq) ((hi q q).2 hq)⟩
   ·exact .inr ⟨hg,k,hk,e,(hi k k).1 h3,fun j hj hc=>h4 j hj ((hi j j).2 hc)⟩
  have HE:∀args W,(callFunc 47 args).run Tryz.prog W= .ok (.enter 47 args) W:=enterK Tryz.func47 (by kernel_rfl) rfl
  clear hp h
  generalize hnP:g.1.length=nP at*
  generalize g.2.length=nK at*
  clear hg hnP
  have CL:=zk (fun gl go (L O:List (List Int)) (W:World) (hK:Kin L O nP) (hL:KvB W.heap.size W (.slice (some ⟨gl,0,none⟩) nP nP) L) (hl:∀m,(L.getD m []).length≤nP)=>
   least_l nP 47 (.agg #[.slice (some ⟨gl,0,none⟩) nP nP,.slice (some ⟨go,0,none⟩) nP nP]) (fun q=>Cms L q (q:Int)) W HE (by omega)
    (fun k hk X bX=>isCircle_n nP gl go k L O X hK.ll ((hL.later bX).mono bX.size) hK.lin (fun l hl2=>by
     obtain⟨i,hi⟩:=List.getElem?_of_mem hl2
     have:=hl i
     rw[List.getD_eq_getElem?_getD,hi]at this
     exact Nat.le_trans this (by omega)) (by omega) hk))
  go_enter Tryz.func21,Tryz.ntmps21
  go_wp2_with fail
  have G0:=heap_alloc_new w (.cells #[.slice a nP c,.slice aK nK cK] 25)
  refine(zq CM _ (Below.new1 _)).mono ?_
  rintro e w1 ⟨rfl,b1⟩
  have G1:=(b1.block _ (Array.getElem?_eq_some_iff.1 G0).1).trans G0
  obtain⟨y0,y1⟩:=XK G1
  have B1:=zk (Xk (Below.new1 _) b1)
  have G1s:=(Array.getElem?_eq_some_iff.1 G1).1
  have CK1:=zk (fun X (bX:Below w1.heap.size w1 X)=>zq CK X (Xk (zq B1) bX))
  clear CM CK b1 G0 G1
  go_wp2_with fail
  go_region_held3 (fun w'=>w'.cell? ⟨w.heap.size,0,none⟩=some (.slice a nP c)∧w'.cell? ⟨w.heap.size,1,none⟩=some (.slice aK nK cK))
   (first
    |exact⟨y0,y1⟩
    |exact⟨(b3.cell (p:=⟨w.heap.size,0,none⟩) G1s).trans y0,(b3.cell (p:=⟨w.heap.size,1,none⟩) G1s).trans y1⟩
    |exact⟨(b2.cell (p:=⟨w.heap.size,0,none⟩) G1s).trans y0,(b2.cell (p:=⟨w.heap.size,1,none⟩) G1s).trans y1⟩)
   (first
    |(go_at_call 38;refine(zq CK1 _ T.zX).mono ?_;rintro e w2 ⟨gl,go,L,O,rfl,hL,hO,hK,hl,hm,b2⟩;have CL2:=zq CL gl go L O w2 hK hL hl;clear hL hO hl)
    |(go_at_call 46;refine CL2.mono ?_;rintro e w3 ⟨R,rfl,hR,b3'⟩;have b3:=Xk b2 b3';clear b3'))
  all_goals (go_wp2_with fail)
  all_goals go_ret
  all_goals exact zq HF L O _ R (Xk (zq B1) (Xk (T.zX (k:=1)) b3)) hK hm hR
end Go.Proofs.YtcblkmlcbedomaaGreatDoor.K
namespace Go.Proofs.YtcblkmlcbedomaaGreatDoor.K
open Go.RowKit Go.Shelf Go.Proofs.YtcblkmlcbedomaaGreatDoor.T Go.Proofs.YtcblkmlcbedomaaGreatDoor.R Go.Proofs.YtcblkmlcbedomaaGreatDoor.F Go.Proofs.YtcblkmlcbedomaaGreatDoor.Nl
def leftB (g:GR) (n:Nat):List Int:=match g.1[n]? with|some p=>p.1.flatMap (lefL (nuL g.1))|none=> []
theorem left_b {g:GR} (hg:gramB g.1=true) (n:Nat) (x:Int):leftP g (n:Int) x↔x∈leftB g n:=by
 unfold leftP leftB
 constructor
 ·rintro⟨-,i,p,a,e,hi,ha,hx⟩
  obtain rfl:n=i:=by omega
  rw[hi]
  exact List.mem_flatMap.2 ⟨a,ha,hx⟩
 ·intro h
  cases hi:g.1[n]? with
  |none=>rw[hi]at h;cases h
  |some p=>
   rw[hi]at h
   obtain⟨a,ha,hx⟩:=List.mem_flatMap.1 h
   exact⟨hg,n,p,a,rfl,hi,ha,hx⟩
def tA:List Int:=[97,32,61,32,98,59,32,98,32,61,32,34,120,34,59]
def fA:List (List Int)×List RU:=([],[([97],0,mk 0 [98] [] [] 4,[],0),([98],0,mk 1 [120] [] [] 11,[],7)])
def gA:GR:=([([[(2,[],1)]],0,[]),([[(0,[(120,120)],0)]],0,[])],[])
def tB:List Int:=[97,32,61,32,98,59,32,98,32,61,32,99,32,97,59,32,99,32,61,32,59]
def fB:List (List Int)×List RU:=([],[([97],0,mk 0 [98] [] [] 4,[],0),([98],0,mk 4 [] [] [mk 0 [99] [] [] 11,mk 0 [97] [] [] 13] 11,[],7),([99],0,mk 4 [] [] [] 20,[],16)])
set_option maxRecDepth 100000 in
theorem fileA:fileL tA= .inr fA:=by kernel_rfl
set_option maxRecDepth 100000 in
theorem flatA:flatL 4 fA= .inr gA:=by kernel_rfl
theorem fokA:fokB 4 fA=true:=by kernel_rfl
theorem mayA:gramB gA.1=true:=by kernel_rfl
theorem bytesA:U.zv tA:=by
 intro z hz
 simp[tA]at hz
 omega
set_option maxRecDepth 100000 in
theorem fileB:fileL tB= .inr fB:=by kernel_rfl
set_option maxRecDepth 100000 in
theorem flatB:flatL 4 fB= .inr gB:=by kernel_rfl
theorem fokB':fokB 4 fB=true:=by kernel_rfl
theorem bytesB:U.zv tB:=by
 intro z hz
 simp[tB]at hz
 omega
theorem lA0:leftB gA 0=[1]:=by kernel_rfl
theorem lA1:leftB gA 1=[]:=by kernel_rfl
theorem lB0:leftB gB 0=[1]:=by kernel_rfl
theorem lB1:leftB gB 1=[2,0]:=by kernel_rfl
theorem leftA {n:Nat} {x:Int}:leftP gA (n:Int) x↔n=0∧x=1:=by
 rw[left_b mayA]
 constructor
 ·intro h
  match n,h with
  |0,h=>rw[lA0]at h;simp at h;exact⟨rfl,h⟩
  |1,h=>rw[lA1]at h;cases h
  |n+2,h=>
   have:leftB gA (n+2)=[]:=rfl
   rw[this]at h;cases h
 ·rintro⟨rfl,rfl⟩
  rw[lA0];simp
theorem noA (q:Nat):¬Lc gA q (q:Int):=by
 have key:∀(k n:Nat) (x:Int),lc gA k n x→n=0∧x=1:=by
  intro k
  induction k with
  |zero=>intro n x h;exact leftA.1 h
  |succ k ih=>
   intro n x ⟨m,h1,h2⟩
   have:=(ih n m h1).2
   have:=(leftA.1 h2).1
   omega
 rintro⟨k,h⟩
 have:=key k q q h
 omega
theorem ordA {out:List Int} (h:OrP gA out):out=[1,0]:=by
 have hl:=h.len
 have hn:=h.nd
 have hr:=h.rng
 have ho:=h.ord
 have e2:gA.1.length=2:=rfl
 rw[e2]at hl hr
 match out,hl with
 | [a,b],_=>
  obtain⟨m,rfl,hm⟩:=hr a (by simp)
  obtain⟨n,rfl,hn2⟩:=hr b (by simp)
  simp at hn
  have hm0:m≠0:=fun e=>by
   subst e
   have:=ho 0 0 rfl 1 (leftA.2 ⟨rfl,rfl⟩)
   simp at this
  obtain rfl:m=1:=by omega
  obtain rfl:n=0:=by omega
  rfl
theorem yesB:Lc gB 0 ((0:Nat):Int):=⟨1,1,(left_b zo 0 _).2 (by rw[lB0];simp),(left_b zo 1 _).2 (by rw[lB1];simp)⟩
end Go.Proofs.YtcblkmlcbedomaaGreatDoor.K
namespace Go.Proofs.YtcblkmlcbedomaaGreatDoor.Nl
open Go.RowKit Go.Shelf Go.Proofs.YtcblkmlcbedomaaGreatDoor.T Go.Proofs.YtcblkmlcbedomaaGreatDoor.R Go.Proofs.YtcblkmlcbedomaaGreatDoor.F
def eqG {α:Type} (e:α→α→Bool):List α→List α→Bool
 | [],[]=>true
 |x::l,y::m=>e x y&&eqG e l m
 |_,_=>false
theorem eqG_drop {α:Type} (e:α→α→Bool) {l m:List α} {k:Nat} (h:k<l.length) (h2:k<m.length):eqG e (l.drop k) (m.drop k)=(e l[k] m[k]&&eqG e (l.drop (k+1)) (m.drop (k+1))):=by
 rw[List.drop_eq_getElem_cons h,List.drop_eq_getElem_cons h2];rfl
theorem eqG_len {α:Type} (e:α→α→Bool):∀(l m:List α),l.length≠m.length→eqG e l m=false:=by
 intro l
 induction l with
 |nil=>intro m h;cases m with
  |nil=>simp at h
  |cons=>rfl
 |cons x l ih=>
  intro m h
  cases m with
  |nil=>rfl
  |cons y m=>unfold eqG;rw[ih m (by simpa using h)];simp
def CeV {α:Type} (enc:α→Value) (w:World) (v:Value) (l:List α):Prop:=∃a c,v= .slice a l.length c∧l.length≤c∧c≤maxLen∧∀j b,l[j]? =some b→∃g off,a=some ⟨g,off,none⟩∧g<w.heap.size∧w.cell? ⟨g,off+j,none⟩=some (enc b)
theorem CeV.later {α:Type} {enc:α→Value} {w X:World} {v:Value} {l:List α} (h:CeV enc w v l) (k:Below w.heap.size w X):CeV enc X v l:=by
 obtain⟨a,c,e,h1,h2,h3⟩:=h
 refine⟨a,c,e,h1,h2,fun j b hj=> ?_⟩
 obtain⟨g,off,ha,hg,hc⟩:=h3 j b hj
 exact⟨g,off,ha,Nat.lt_of_lt_of_le hg k.size,(k.cell (p:=⟨g,off+j,none⟩) hg).trans hc⟩
theorem ceOwn {α:Type} {enc:α→Value} {w:World} {base:Nat} {t:TypeId} {v:Value} {l:List α} (h:w.ownsRow base t 1 v l.length (l.map enc)):CeV enc w v l:=by
 rcases id h.2 with ⟨rfl,h0⟩|⟨g,cap,cur,rfl,hb,hg,hn,hm,hsz,ht⟩
 ·refine⟨none,0,by rw[h0],by omega,Nat.zero_le _,fun j b hj=> ?_⟩
  have:=(List.getElem?_eq_some_iff.1 hj).1;omega
 ·refine⟨_,cap,rfl,hn,hm,fun j b hj=>⟨g,0,rfl,(Array.getElem?_eq_some_iff.1 hg).1,?_⟩⟩
  have:=World.ownsRow.cells h (g:=g) rfl j (enc b) (by rw[List.getElem?_map,hj];rfl)
  rwa [Addr.add_lit]at this
theorem ceNew {α:Type} {enc:α→Value} {w:World} {g:Nat} {t:TypeId} {l:List α} (h:w.heap[g]? =some (.cells (l.map enc).toArray t)) (hl:l.length≤1000):CeV enc w (.slice (some ⟨g,0,none⟩) l.length l.length) l:=
 ⟨_,l.length,rfl,Nat.le_refl _,by unfold maxLen;omega,fun j b hj=>⟨g,0,rfl,(Array.getElem?_eq_some_iff.1 h).1,by simp[World.cell?,h,hj]⟩⟩
theorem ints_l (v1 v2:Value) (l m:List Int) (w:World) (h1:CeV (Value.int .i64) w v1 l) (h2:CeV (Value.int .i64) w v2 m):
  Calls Tryz.prog 18 #[v1,v2] w fun e w'=>e= .returned (.bool (eqG (fun x y=>x==y) l m))∧Below w.heap.size w w':=by
 obtain⟨a,c,rfl,hc1,hc2,h3⟩:=h1
 obtain⟨a',c',rfl,hd1,hd2,h3'⟩:=h2
 unfold maxLen at hc2 hd2
 have H1:=zk h3
 have H2:=zk h3'
 clear h3 h3'
 by_cases hl:l.length=m.length
 ·have bl:((l.length:Int) !=(m.length:Int))=false:=by simp[hl]
  have HL:=zk hl
  clear hl
  go_enter Tryz.func18,Tryz.ntmps18
  go_wp2_with fail
  go_loopw [5] (fun i wr=>∃(j:Nat),j≤l.length∧i= .int .i64 (j:Int)∧Hid (eqG (fun x y=>x==y) l m=eqG (fun x y=>x==y) (l.drop j) (m.drop j))∧Hid (Below w.heap.size w wr)) (fun i _=>l.length-(intOf i).toNat)
  case atStart=>exact⟨0,Nat.zero_le _,rfl,rfl,Below.refl _ _⟩
  case round=>
   obtain⟨j,hj,rfl,hO,hB⟩:=hrel
   by_cases hlt:j<l.length
   ·have hlt2:j<m.length:=by rw[←zq HL];exact hlt
    obtain⟨g,off,rfl,hg,q0⟩:=zq H1 j l[j] (by simp[hlt])
    obtain⟨g',off',rfl,hg',q1⟩:=zq H2 j m[j] (by simp[hlt2])
    have ST:=zk (eqG_drop (fun x y=>x==y) hlt hlt2)
    have Q0:∀d,(wr.drewN d).cell? ⟨g,off+j,none⟩=some ((Value.int .i64) l[j]):=fun d=>((zq hB).cell (p:=⟨g,off+j,none⟩) hg).trans q0
    have Q1:∀d,(wr.drewN d).cell? ⟨g',off'+j,none⟩=some ((Value.int .i64) m[j]):=fun d=>((zq hB).cell (p:=⟨g',off'+j,none⟩) hg').trans q1
    have R0:=Q0 0
    have R1:=Q1 0
    simp only[World.drewN_zero]at R0 R1
    clear q0 q1
    generalize l[j]=x at*
    generalize m[j]=y at*
    by_cases hxy:x=y
    ·have bn:(x !=y)=false:=by simp[hxy]
     have be:(x==y)=true:=by simp[hxy]
     have NX:Hid (eqG (fun x y=>x==y) l m=eqG (fun x y=>x==y) (l.drop (j+1)) (m.drop (j+1))):=by
      show _=_
      rw[zq hO,zq ST,hxy];simp
     clear hxy hO ST
     go_wp2_with fail
     go_quiet (fail)
     go_wp2_with fail
     exact⟨⟨j+1,by omega,by simp,NX,(zq hB).trans zX⟩,by simp[intOf];omega⟩
    ·have bn:(x !=y)=true:=by simpa using hxy
     have be:(x==y)=false:=by simpa using hxy
     have NX:Hid (eqG (fun x y=>x==y) l m=false):=by
      show _=_
      have e:(x==y)=false:=by simpa using hxy
      rw[zq hO,zq ST,e];rfl
     clear hxy hO ST
     go_wp2_with fail
     go_quiet (fail)
     go_wp2_with fail
     go_ret
     exact⟨ret_bool (zq NX).symm,(zq hB).trans zX⟩
   ·obtain rfl:j=l.length:=by omega
    have NX:Hid (eqG (fun x y=>x==y) l m=true):=by
     show _=_
     rw[zq hO,List.drop_eq_nil_of_le (Nat.le_refl _),List.drop_eq_nil_of_le (by rw[zq HL];exact Nat.le_refl _)];rfl
    go_wp2_with fail
    go_ret
    exact⟨ret_bool (zq NX).symm,zq hB⟩
 ·have bl:((l.length:Int) !=(m.length:Int))=true:=by rw[bne_iff_ne];omega
  have NX:=zk (eqG_len (fun x y=>x==y) l m hl)
  clear hl H1 H2
  generalize l.length=nl at*
  generalize m.length=nm at*
  go_enter Tryz.func18,Tryz.ntmps18
  go_wp2_with fail
  go_ret
  exact⟨ret_bool (zq NX).symm,Below.refl _ _⟩
end Go.Proofs.YtcblkmlcbedomaaGreatDoor.Nl
namespace Go.Proofs.YtcblkmlcbedomaaGreatDoor.K
open Go.RowKit Go.Shelf Go.Proofs.YtcblkmlcbedomaaGreatDoor.T Go.Proofs.YtcblkmlcbedomaaGreatDoor.R Go.Proofs.YtcblkmlcbedomaaGreatDoor.F Go.Proofs.YtcblkmlcbedomaaGreatDoor.Nl
theorem up_133 {l:List Int} (hp:l.Perm [3,1,3]) (hu:l.Pairwise (· ≤ ·)):l=[1,3,3]:=by
 have hq:l.Perm [1,3,3]:=hp.trans (List.Perm.swap 1 3 [3])
 have hm:∀x∈l,x=1∨x=3:=fun x hx=>by have:=hq.subset hx;simp at this;omega
 have hc:=hq.count_eq 1
 have hl:=hq.length_eq
 match l,hl with
 | [a,b,c],_=>
  have ha:=hm a (by simp)
  have hb:=hm b (by simp)
  have hcc:=hm c (by simp)
  simp only[List.pairwise_cons,List.mem_cons,List.mem_nil_iff,or_false,forall_eq_or_imp,forall_eq]at hu
  rcases ha with rfl|rfl<;>rcases hb with rfl|rfl<;>rcases hcc with rfl|rfl<;>simp at hc hu<;>first|rfl|omega
theorem awake10_l (w:World):Calls Tryz.prog 14 #[] w fun e w'=>e= .returned (.bool true)∧Below w.heap.size w w':=by
 have TA:=zk (fun W=>text_l ⟨#[97,32,61,32,98,59,32,98,32,61,32,34,120,34,59]⟩ tA fA gA (St.of bytesA) (by show 15≤100000000;omega) fileA fokA flatA W)
 have TB:=zk (fun W=>text_l ⟨#[97,32,61,32,98,59,32,98,32,61,32,99,32,97,59,32,99,32,61,32,59]⟩ tB fB gB (St.of bytesB) (by show 21≤100000000;omega) fileB fokB' flatB W)
 have e1:fA.1.length=0:=rfl
 have e2:fA.2.length=2:=rfl
 have e3:gA.1.length=2:=rfl
 have e4:gA.2.length=0:=rfl
 have e5:fB.1.length=0:=rfl
 have e6:fB.2.length=3:=rfl
 have e7:gB.1.length=3:=rfl
 have e8:gB.2.length=0:=rfl
 have e9:((tA.length:Nat):Int)=15:=rfl
 have e10:((tB.length:Nat):Int)=21:=rfl
 rw[e1,e2,e3,e4,e9]at TA
 rw[e5,e6,e7,e8,e10]at TB
 clear e1 e2 e3 e4 e5 e6 e7 e8 e9 e10
 go_enter Tryz.func14,Tryz.ntmps14
 go_wp2_with fail
 refine(zq TA _).mono ?_
 rintro e w1 ⟨aK,cK,aR,cR,rfl,b1,hO⟩
 have CO:=zk hO
 have B1:=zk b1
 clear TA hO b1
 go_wp2_with fail
 refine(zq CO _ (Below.new1 _)).mono ?_
 rintro e w2 ⟨a,c,b,d,rfl,gm,b2⟩
 have C1:=zk (fun W (bW:Below w2.heap.size w2 W)=>Order_l _ gA W (gm.later bW))
 have C2:=zk (fun W (bW:Below w2.heap.size w2 W)=>Circle_l _ gA W (gm.later bW))
 have B2:=zk (Xk (zq B1) (Xk (Below.new1 _) b2))
 clear CO gm b2 B1
 go_wp2_with fail
 have G0:=heap_alloc_new w2 (.cells #[.slice a 2 c,.slice b 0 d] 25)
 refine(zq C1 _ (Below.new1 _)).mono ?_
 rintro e w3 ⟨b3,h3⟩
 obtain⟨v',rfl,own⟩:∃v',e= .returned (.tuple #[v',.bool true])∧w3.ownsRow (w2.alloc (.cells #[.slice a 2 c,.slice b 0 d] 25)).heap.size 3 1 v' ([1,0]:List Int).length (([1,0]:List Int).map (Value.int .i64)):=by
  rcases h3 with ⟨h,-⟩|⟨-,⟨q,hq⟩,-⟩|⟨-,-,v',out,e,hv,ho⟩
  ·rw[mayA]at h;cases h
  ·exact absurd hq (noA q)
  ·obtain rfl:=ordA ho
   exact⟨v',e,hv⟩
 have G3:=(b3.block _ (Array.getElem?_eq_some_iff.1 G0).1).trans G0
 have B3:=zk (Xk (Below.new1 (w:=w2) _) b3)
 have ce:=zk (ceOwn (enc:=Value.int .i64) own)
 obtain⟨a1,n1,c1,rfl⟩:=Xa own
 clear C1 h3 own b3 G0
 go_wp2_with fail
 refine(zq TB _).mono ?_
 rintro e w4 ⟨aK2,cK2,aR2,cR2,rfl,b4,hO⟩
 have CO:=zk hO
 have B4:=zk (Xk (zq B3) b4)
 have ce4:=zk ((zq ce).later b4)
 have G4:=(b4.block _ (Array.getElem?_eq_some_iff.1 G3).1).trans G3
 clear TB hO b4 B3 ce G3
 go_wp2_with fail
 refine(zq CO _ (Below.new1 _)).mono ?_
 rintro e w5 ⟨a5,c5,b5',d5,rfl,gm,b5⟩
 have B5n:Below w4.heap.size w4 w5:=Xk (Below.new1 _) b5
 have C5:=zk (fun W (bW:Below w5.heap.size w5 W)=>Circle_l _ gB W (gm.later bW))
 have B5:=zk (Xk (zq B4) B5n)
 have ce5:=zk ((zq ce4).later B5n)
 have G5:=(B5n.block _ (Array.getElem?_eq_some_iff.1 G4).1).trans G4
 clear CO gm b5 B5n B4 ce4 G4
 go_wp2_with fail
 have H0:=heap_alloc_new w5 (.cells #[.slice a5 3 c5,.slice b5' 0 d5] 25)
 have bn:Below w5.heap.size w5 ((w5.alloc (.cells #[.slice a5 3 c5,.slice b5' 0 d5] 25)).alloc (.cells #[.int .i64 1,.int .i64 0] 3)):=Xk (Below.new1 _) (Below.new1 _)
 have hI:=heap_alloc_new (w5.alloc (.cells #[.slice a5 3 c5,.slice b5' 0 d5] 25)) (.cells #[.int .i64 1,.int .i64 0] 3)
 have sI:(w5.alloc (.cells #[.slice a5 3 c5,.slice b5' 0 d5] 25)).heap.size=w5.heap.size+1:=by simp
 rw[sI]at hI
 have H1:=((Below.new1 (w:=w5.alloc (.cells #[.slice a5 3 c5,.slice b5' 0 d5] 25)) (.cells #[.int .i64 1,.int .i64 0] 3)).block w5.heap.size (by simp)).trans H0
 generalize (w5.alloc (.cells #[.slice a5 3 c5,.slice b5' 0 d5] 25)).alloc (.cells #[.int .i64 1,.int .i64 0] 3)=X5 at*
 have CI:=zk (ints_l _ _ [1,0] [1,0] X5 ((zq ce5).later bn) (ceNew (enc:=Value.int .i64) (l:=[1,0]) hI (by simp)))
 rw[show eqG (fun x y=>x==y) ([1,0]:List Int) [1,0]=true from rfl]at CI
 have G6:=(bn.block _ (Array.getElem?_eq_some_iff.1 G5).1).trans G5
 have B6:=zk bn
 clear H0 bn hI sI ce5 G5
 refine(zq CI).mono ?_
 rintro e w6 ⟨rfl,b6⟩
 have G7:=(b6.block _ (Array.getElem?_eq_some_iff.1 G6).1).trans G6
 have H7:=(b6.block _ (Array.getElem?_eq_some_iff.1 H1).1).trans H1
 have B7:=zk (Xk (zq B6) b6)
 clear CI b6 G6 H1 B6
 go_wp2_with fail
 have hN:=heap_alloc_new w6 (.cells #[.int .i64 3,.int .i64 1,.int .i64 3] 3)
 refine(first_l _ [3,1,3] _ (ceNew (enc:=Value.int .i64) (l:=[3,1,3]) hN (by simp)) (by simp)).mono ?_
 rintro e w7 ⟨v7,out7,rfl,own7,hp7,hu7,b7⟩
 obtain rfl:=up_133 hp7 hu7
 have B8n:Below w6.heap.size w6 w7:=Xk (Below.new1 _) b7
 have G8:=(B8n.block _ (Array.getElem?_eq_some_iff.1 G7).1).trans G7
 have H8:=(B8n.block _ (Array.getElem?_eq_some_iff.1 H7).1).trans H7
 have B8:=zk (Xk (zq B7) B8n)
 have ce7:=zk (ceOwn (enc:=Value.int .i64) own7)
 obtain⟨a7,n7,c7,rfl⟩:=Xa own7
 clear hN own7 hp7 hu7 b7 B8n G7 H7 B7
 go_wp2_with fail
 have bn8:Below w7.heap.size w7 (w7.alloc (.cells #[.int .i64 1,.int .i64 3,.int .i64 3] 3)):=Below.new1 _
 have CI:=zk (ints_l _ _ [1,3,3] [1,3,3] (w7.alloc (.cells #[.int .i64 1,.int .i64 3,.int .i64 3] 3)) ((zq ce7).later bn8) (ceNew (enc:=Value.int .i64) (l:=[1,3,3]) (heap_alloc_new w7 _) (by simp)))
 rw[show eqG (fun x y=>x==y) ([1,3,3]:List Int) [1,3,3]=true from rfl]at CI
 have G9:=(bn8.block _ (Array.getElem?_eq_some_iff.1 G8).1).trans G8
 have H9:=(bn8.block _ (Array.getElem?_eq_some_iff.1 H8).1).trans H8
 have HB:=zk bn8
 clear bn8 G8 H8 ce7
 refine(zq CI).mono ?_
 rintro e w8 ⟨rfl,b8⟩
 have G10:=(b8.block _ (Array.getElem?_eq_some_iff.1 G9).1).trans G9
 have H10:=(b8.block _ (Array.getElem?_eq_some_iff.1 H9).1).trans H9
 obtain⟨y0,y1⟩:=XK G10
 have B9:=zk (Xk (zq B8) (Xk (zq HB) b8))
 clear CI b8 G9 H9 HB B8
 go_wp2_with fail
 refine(zq C2 _ (Xk (zq B5) (zq B9))).mono ?_
 rintro e w9 ⟨b9,R,rfl,hR⟩
 obtain rfl:R= -1:=by
  rcases hR with ⟨h,-⟩|⟨-,k,-,-,h,-⟩
  ·exact h
  ·exact absurd h (noA k)
 have H11:=(b9.block _ (Array.getElem?_eq_some_iff.1 H10).1).trans H10
 obtain⟨z0,z1⟩:=XK H11
 have B10:=zk (Xk (zq B9) b9)
 clear C2 hR b9 G10 H10 y0 y1 B9
 go_wp2_with fail
 refine(zq C5 _ (zq B10)).mono ?_
 rintro e wA ⟨bA,R,rfl,hR⟩
 obtain rfl:R=0:=by
  rcases hR with ⟨-,h⟩|⟨-,k,-,e,-,h⟩
  ·exact absurd yesB (h zo 0)
  ·rcases Nat.eq_zero_or_pos k with h0|h0
   ·subst h0;exact e
   ·exact absurd yesB (h 0 h0)
 have B11:=zk (Xk (zq B10) bA)
 clear C5 hR bA H11 z0 z1 B10
 go_wp2_with fail
 go_ret
 exact⟨rfl,Xk (zq B2) (Xk (zq B5) (zq B11))⟩
end Go.Proofs.YtcblkmlcbedomaaGreatDoor.K
