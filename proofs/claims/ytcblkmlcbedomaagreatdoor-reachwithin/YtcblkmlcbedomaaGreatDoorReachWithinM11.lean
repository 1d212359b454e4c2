/- Parts of the proof that stand ahead of it (ReachWithin 11). -/
import Derived.Test.YtcblkmlcbedomaaGreatDoorRM5
import Derived.Test.YtcblkmlcbedomaaGreatDoorReachWithinM8
import Derived.Test.YtcblkmlcbedomaaGreatDoorReachWithinM9
import Derived.Test.YtcblkmlcbedomaaGreatDoorRM12
set_option linter.unusedVariables false
set_option linter.unusedSimpArgs false
set_option maxRecDepth 20000
set_option maxHeartbeats 16000000
namespace Go.Proofs.YtcblkmlcbedomaaGreatDoor.K
open Go.RowKit
def lenV:Value→Nat
 | .slice _ n _=>n
 |_=>0
end Go.Proofs.YtcblkmlcbedomaaGreatDoor.K
set_option linter.unusedVariables false
set_option linter.unusedSimpArgs false
set_option maxRecDepth 20000
set_option maxHeartbeats 16000000
namespace Go.Proofs.YtcblkmlcbedomaaGreatDoor.Nl
open Go.RowKit Go.Shelf Go.Proofs.YtcblkmlcbedomaaGreatDoor.T Go.Proofs.YtcblkmlcbedomaaGreatDoor.R Go.Proofs.YtcblkmlcbedomaaGreatDoor.F
theorem lef_is {P:List PRD} {E:List Int} (hE:∀x,x∈E↔isN P x):∀l:List SY,lefE E l=lefL (nuL P) l:=by
 intro l
 induction l with
 |nil=>rfl
 |cons s l ih=>
  unfold lefE lefL
  by_cases h2:s.1=2
  ·rw[if_pos h2,if_pos h2,ih]
   by_cases hn:s.2.2∈E
   ·rw[if_pos hn,if_pos (nulS_nu.2 ⟨h2,(hE _).1 hn⟩)]
   ·rw[if_neg hn,if_neg (fun c=>hn ((hE _).2 (nulS_nu.1 c).2))]
  ·rw[if_neg h2,if_neg h2]
structure LfI (w:World) (b bl k1:Nat) (E pre0:List Int) (v:Value) (l:List SY) (ds:List Deferred) (pre:List Int) (W:World):Prop where
 emp:SetV W b E
 set:SetV W bl (pre0++pre)
 sy:SyL W w.heap.size v l
 bx:W.heap[bl+1]? =some (boxS bl)
 c1:W.heap[k1]? =some (boxS b)
 c2:W.heap[k1+1]? =some (boxY v)
 bel:Below w.heap.size w W
 mrk:Marks (bl+2) W ds
 ml:∀D,markD D∈ds→D<k1
theorem LfI.below {w W W':World} {b bl k1:Nat} {E pre0 pre:List Int} {v:Value} {l:List SY} {ds:List Deferred} (h:LfI w b bl k1 E pre0 v l ds pre W) (k:Below (k1+2) W W') (hb:b<bl) (hbl:bl+2≤k1) (hw:w.heap.size≤bl):LfI w b bl k1 E pre0 v l ds pre W':=
 ⟨h.emp.later k (by omega),h.set.later k (by omega),h.sy.later (k.mono (by omega)),(k.block _ (by omega)).trans h.bx,(k.block _ (by omega)).trans h.c1,(k.block _ (by omega)).trans h.c2,h.bel.trans (k.mono (by omega)),
  h.mrk.keep ds fun D hD hW=>(k.block D (by have:=h.ml D hD;omega)).trans hW,h.ml⟩
theorem LfI.put {w W W':World} {b bl k1:Nat} {E pre0 pre:List Int} {v:Value} {l:List SY} {ds:List Deferred} {x:Int} (h:LfI w b bl k1 E pre0 v l ds pre W) (hs:SetV W' bl ((pre0++pre)++[x])) (k:Bo bl W W') (hb:b<bl) (hbl:bl+2≤k1) (hw:w.heap.size≤bl) (hW:k1+2≤W.heap.size):LfI w b bl k1 E pre0 v l ds (pre++[x]) W':=by
 have kb:∀g,g<W.heap.size→g≠bl→W'.heap[g]? =W.heap[g]? :=fun g h1 h2=>k.block g h1 (fun e=>h2 (by injection e))
 have kB:Below w.heap.size W W':=⟨k.os,k.tape,k.output,k.size,fun i hi=>kb i (by omega) (by omega)⟩
 exact⟨h.emp.keep (kb _ (by omega) (by omega)),by rw[←List.append_assoc];exact hs,h.sy.later kB,(kb _ (by omega) (by omega)).trans h.bx,(kb _ (by omega) (by omega)).trans h.c1,(kb _ (by omega) (by omega)).trans h.c2,h.bel.trans kB,
  h.mrk.keep ds fun D hD hX=>(kb D (by have:=h.ml D hD;omega) (by have:=(h.mrk.lt ds D hD).1;omega)).trans hX,h.ml⟩
theorem InV.off {W X:World} {base base':Nat} {v:Value} {L:List Int} (h:InV W base v L) (hb:base'≤base) (k:∀(k:Nat) (o:Obj),W.heap[k]? =some o→(∀x,o≠Obj.deferred x)→X.heap[k]? =some o):InV X base' v L:=by
 refine⟨h.1,?_⟩
 rcases h.2 with hn|⟨g,cap,cur,e,h1,hg,rest⟩
 ·exact .inl hn
 ·exact .inr ⟨g,cap,cur,e,Nat.le_trans hb h1,k g _ hg (fun x c=>by cases c),rest⟩
theorem box_cell {W:World} {k b:Nat} (h:W.heap[k]? =some (boxS b)):W.cell? ⟨k,0,none⟩=some (.map (some b)):=by simp[World.cell?,h]
def lfT (g0:Value) (i:Int) (wz b bz:Nat) (sP:Value) (nP:Int) (pp sA:Value) (nA k:Int) (u8 u9 u36 u37 u38 u39 u40 u41 u42 u43 u44 u45 u46:Value):Array Value:=
 #[g0,.int .i64 i,.pointer (some ⟨wz,0,none⟩),undef,.slice none 0 0,.map (some b),.pointer (some ⟨bz+1,0,none⟩),undef,u8,u9,g0,.bool true,.bool false,.bool false,.int .i64 i,.bool false,.bool false,.bool false,.int .i64 i,
  .pointer (some ⟨wz,0,none⟩),sP,.int .i64 nP,.bool false,.bool false,.pointer (some ⟨wz,0,none⟩),sP,.map (some b),.map (some bz),.pointer (some ⟨wz,0,none⟩),sP,.int .i64 i,pp,pp,sA,.int .i64 nA,.int .i64 k,u36,u37,u38,u39,u40,u41,u42,u43,u44,u45,u46,undef,undef,undef]
def LfL (w w2:World) (b:Nat) (E:List Int) (A:List (List SY)) (g0:Value) (i:Int) (sP:Value) (nP:Int) (pp sA:Value) (a':Act) (W':World):Prop:=
 ∃(k:Nat) (ki:Int) (ds:List Deferred) (pre:List Int) (u8 u9 u36 u37 u38 u39 u40 u41 u42 u43 u44 u45 u46:Value),
  ki=(k:Int)∧a'={tmps:=lfT g0 i w.heap.size b w2.heap.size sP nP pp sA (A.length:Nat) ki u8 u9 u36 u37 u38 u39 u40 u41 u42 u43 u44 u45 u46,defers:=ds}∧k≤A.length∧Hid (pre=(A.take k).flatMap (lefE E))∧pre.length≤40*k∧
  Hid (SetV W' b E)∧Hid (SetV W' w2.heap.size pre)∧Hid (W'.heap[w2.heap.size+1]? =some (boxS w2.heap.size))∧Hid (Below w.heap.size w W')∧w2.heap.size+2≤W'.heap.size∧Hid (Marks (w2.heap.size+2) W' ds)
attribute [local go_sem] Oper.semAt_some
theorem nLefts_yes (v:Value) (g:GR) (i:Nat) (p:PRD) (w:World) (h:GrM w v g) (hg:gramB g.1=true) (hi:g.1[i]? =some p):
  Calls Tryz.prog 24 #[v,.int .i64 (i:Int)] w fun e w'=>LfR w g (i:Int) e w':=by
 have CM:=zk (fun W (bW:Below w.heap.size w W)=>fMayM_l v g W (h.later bW))
 obtain⟨a,c,aK,cK,rfl,hp,-⟩:=id h
 obtain⟨P,K⟩:=g
 simp only at CM hp hg hi⊢
 rw[hg]at CM
 obtain⟨-,h60,h8,h40,ok,hf⟩:=Xv hg
 have hmm:= @run_makeMap Tryz.prog
 have hx:∀args w,(callFunc 82 args).run Tryz.prog w= .ok (.enter 82 args) w:=enters_of Tryz.func82 (by kernel_rfl) rfl
 have hpr:=hp.prl hf
 have HP:=zk hpr
 have CE:=zk (fun W (bW:Below w.heap.size w W)=>emptyOf_l w.heap.size _ P W ((zq HP).later bW) bW.size h60 h8 ok)
 have hiL:=(List.getElem?_eq_some_iff.1 hi).1
 have hmem:=List.mem_of_getElem? hi
 have h8p:=h8 p hmem
 have H40:=zk (h40 p hmem)
 have HFT:=zk (hf p hmem)
 have HLP:Hid (∀x,leftP (P,K) (i:Int) x↔∃a∈p.1,x∈lefL (nuL P) a):=by
  intro x
  constructor
  ·rintro⟨-,j,q,al,e,hq,ha,hx⟩
   obtain rfl:i=j:=by omega
   simp only at hq
   rw[hi]at hq
   injection hq with hq
   subst hq
   exact⟨al,ha,hx⟩
  ·rintro⟨al,ha,hx⟩
   exact⟨hg,i,p,al,rfl,hi,ha,hx⟩
 obtain⟨a0,c0,e0,hc1,hc2,h3⟩:=hpr
 injection e0 with e1 e2 e3
 subst e1;subst e3
 obtain⟨gp,off,u,m,x,n',kk,rfl,hgp,q0,q1,q2,hA⟩:=h3 i p hi
 obtain⟨aA,cA,rfl,hA1,hA2,-⟩:=id hA
 have HA:=zk hA
 have Q0:=fun W (bW:Below w.heap.size w W)=>(bW.cell (p:=⟨gp,off+3*i,none⟩) hgp).trans q0
 unfold maxLen at hc2 hA2
 clear h hp hg h60 h8 h40 ok hf h3 e2 hA hi hmem HP
 have bn:decide ((i:Int)<0)=false:=decide_eq_false (by omega)
 have bm:decide ((P.length:Int)≤(i:Int))=false:=decide_eq_false (by omega)
 have i3:i*3=3*i:=by omega
 generalize K.length=nK at*
 refine(callsIn_wide (n:=8)).1 ?_
 refine callsIn_of_wp_marks Tryz.func24 rfl trivial ?_ rfl
 simp only[Tryz.ntmps24,List.size_toArray,List.length_cons,List.length_nil,Nat.reduceAdd,Nat.reduceSub,Array.replicate_succ,Array.replicate_zero,List.push_toArray,List.append_toArray,List.nil_append,List.cons_append]
 gi_wp2_with fail
 refine⟨trivial,?_⟩
 refine(callsIn_wide.2 (zq CM _ (Below.new1 _))).mono ?_
 rintro e w1 ⟨rfl,b1⟩
 clear CM
 have hk1:=nkept b1
 obtain⟨y0,y1,-,-⟩:=ncells2 hk1
 have B1:=zk (Xj (Below.new1 _) b1)
 clear b1
 gi_wp2_with fail
 refine⟨trivial,?_⟩
 refine(callsIn_wide.2 (zq CE _ (zq B1))).mono ?_
 rintro e w2 ⟨b,E,rfl,hS,hE,hwb,b2⟩
 clear CE y0 y1
 have hk2:=(b2.block _ (Array.getElem?_eq_some_iff.1 hk1).1).trans hk1
 have hlt2:=(Array.getElem?_eq_some_iff.1 hk2).1
 have bz:Below w2.heap.size w2 ((w2.alloc (.map #[] 0)).alloc (boxS w2.heap.size)):=(Below.new1 _).alloc (by simp) _
 have hk3:=(bz.block _ hlt2).trans hk2
 obtain⟨y0,y1,-,-⟩:=ncells2 hk3
 have B2:=zk (Xj (zq B1) b2)
 have B3:=zk (Xj (zq B2) bz)
 have s2:=(zq B2).size
 have qq:=Q0 _ (zq B3)
 have HS:=zk hS
 have HE:=zk hE
 clear hS hE b2 hk1 hk2 hk3 B1 Q0 q0 q1 q2
 gi_wp2_with fail
 have hbl:=(zq HS).lt
 have Z1:Hid (SetV ((w2.alloc (.map #[] 0)).alloc (boxS w2.heap.size)) b E):=(zq HS).later bz hbl
 have Z2:Hid (SetV ((w2.alloc (.map #[] 0)).alloc (boxS w2.heap.size)) w2.heap.size []):=(SetV.new w2).keep ((Below.new1 _).block _ (by simp))
 have Z3:Hid (((w2.alloc (.map #[] 0)).alloc (boxS w2.heap.size)).heap[w2.heap.size+1]? =some (boxS w2.heap.size)):=by
  have:=heap_alloc_new (w2.alloc (.map #[] 0)) (boxS w2.heap.size)
  rwa [World.size_alloc]at this
 have sz:((w2.alloc (.map #[] 0)).alloc (boxS w2.heap.size)).heap.size=w2.heap.size+2:=by simp
 clear bz HS B2 qq y0 y1 hmm
 generalize ((w2.alloc (.map #[] 0)).alloc (boxS w2.heap.size))=Z at*
 refine wpIn_loop (LfL w w2 b E p.1 (.agg #[.slice (some ⟨gp,off,none⟩) P.length c,.slice aK nK cK]) (i:Int) (.slice (some ⟨gp,off,none⟩) P.length c) (P.length:Nat) (.pointer (some ⟨gp,off+3*i,none⟩)) (.slice aA p.1.length cA))
  (fun a' _=>p.1.length-(intOf (a'.tmps.getD 35 undef)).toNat) ?_ ?_
 ·exact⟨0,0,[],[],undef,undef,undef,undef,undef,undef,undef,undef,undef,undef,undef,undef,undef,rfl,rfl,Nat.zero_le _,rfl,Nat.zero_le _,Z1,Z2,Z3,B3,by omega,trivial⟩
 ·rintro a' W' ⟨k,ki,ds,pre,u8,u9,u36,u37,u38,u39,u40,u41,u42,u43,u44,u45,u46,rfl,rfl,hk,hO,hlen,hE1,hL,hbx,hB,hsz,hM⟩
  clear Z1 Z2 Z3 B3 sz
  unfold lfT
  by_cases hlt:k<p.1.length
  ·obtain⟨a',c',e,-,-,h3⟩:=(zq HA).later (zq hB)
   injection e with e1 e2 e3
   subst e1;subst e3
   have hkl:p.1[k]? =some p.1[k]:=by simp[hlt]
   obtain⟨g2,off2,u2,rfl,hg2,r0,hsy⟩:=h3 k p.1[k] hkl
   have hl40:=zq H40 _ (List.getElem_mem hlt)
   have hfl:=zk (zq HFT _ (List.getElem_mem hlt))
   have ST:Hid ((p.1.take (k+1)).flatMap (lefE E)=(p.1.take k).flatMap (lefE E)++lefE E p.1[k]):=by
    show _=_
    rw[List.take_succ_eq_append_getElem hlt,List.flatMap_append];simp
   obtain⟨a5,c5,rfl,-⟩:=id hsy
   have HSY:=zk hsy
   have CL:=zk (lefts_l b a5 (p.1[k]).length c5 W')
   have hll:=lef_len (E:=E) p.1[k]
   clear h3 hkl e2 hsy
   generalize p.1[k]=l at*
   gi_wp2_with fail
   refine⟨trivial,?_⟩
   refine(callsIn_wide.2 (zq CL)).mono ?_
   rintro e w3 ⟨rfl,hw3⟩
   subst hw3
   clear CL
   have sz3:((W'.alloc (boxS b)).alloc (boxY (.slice a5 l.length c5))).heap.size=W'.heap.size+2:=by simp
   have I0:LfI w b w2.heap.size W'.heap.size E pre (.slice a5 l.length c5) l ds [] ((W'.alloc (boxS b)).alloc (boxY (.slice a5 l.length c5))):=by
    have bb:Below W'.heap.size W' ((W'.alloc (boxS b)).alloc (boxY (.slice a5 l.length c5))):=(Below.new1 _).alloc (by simp) _
    refine⟨(zq hE1).later bb (zq hE1).lt,by rw[List.append_nil];exact(zq hL).later bb (zq hL).lt,(zq HSY).later (bb.mono (by omega)),(bb.block _ (by omega)).trans (zq hbx),?_,?_,Xj (zq hB) bb,(zq hM).later bb,fun D hD=>(Array.getElem?_eq_some_iff.1 ((zq hM).lt ds D hD).2).1⟩
    ·exact((Below.new1 _).block _ (by simp)).trans (heap_alloc_new W' _)
    ·have:=heap_alloc_new (W'.alloc (boxS b)) (boxY (.slice a5 l.length c5))
     rwa [World.size_alloc]at this
   clear hE1 hL hbx hB hM HSY
   gi_wp2_with fail
   generalize hZ3:((W'.alloc (boxS b)).alloc (boxY (.slice a5 l.length c5)))=Z3 at*
   clear hZ3
   have HI0:=zk I0
   clear I0
   refine rangeMore (n:=8) (by omega) (gf:=82) (cs:= #[.pointer (some ⟨W'.heap.size+1,0,none⟩),.pointer (some ⟨W'.heap.size,0,none⟩)]) rfl hx w2.heap.size (by rw[sz3];omega) (LfI w b w2.heap.size W'.heap.size E pre (.slice a5 l.length c5) l ds)
    (fun q x=>∃rest,q++x::rest=lefE E l) (fun xs=>xs=lefE E l) (fun q X X' hi k=>hi.below (by rw[sz3]at k;exact k) hbl (by omega) s2) (zq HI0)
    (fun x=>{tmps:=lfT (.agg #[.slice (some ⟨gp,off,none⟩) P.length c,.slice aK nK cK]) (i:Int) w.heap.size b w2.heap.size (.slice (some ⟨gp,off,none⟩) P.length c) (P.length:Nat) (.pointer (some ⟨gp,off+3*i,none⟩)) (.slice (some ⟨g2,off2,none⟩) p.1.length cA) (p.1.length:Nat) (k:Int) (.slice a5 l.length c5) (.int .i64 x) (.bool true) (.pointer (some ⟨g2,off2+k,none⟩)) (.slice a5 l.length c5) (.map (some b)) (.slice a5 l.length c5) (leftsF W'.heap.size (W'.heap.size+1)) (.int .i64 x) u43 u44 u45 u46,defers:=[]})
    ?assign ?body ?iter ?done
   case assign=>
    intro l' x X K' hK
    unfold lfT at hK
    gi_wp2
    exact hK
   case body=>
    rintro l' q x X hI ⟨rest,hx1⟩ hX
    rw[sz3]at hX
    have hql:q.length<l.length:=by
     rw[←hx1,List.length_append,List.length_cons]at hll
     omega
    have hxl:x∈lefE E l:=by rw[←hx1];simp
    obtain⟨sx,hsx,-,rfl⟩:=lef_sub hxl
    have CP:=zk (nput_l w2.heap.size (pre++q) sx.2.2 X hI.set (zq hfl sx hsx) (by rw[List.length_append];omega))
    have q0:X.cell? ⟨w2.heap.size+1,0,none⟩=some (.map (some w2.heap.size)):=by simp[World.cell?,hI.bx]
    have HI:=zk hI
    clear hI hsx hxl hx1
    generalize sx.2.2=z at*
    unfold lfT
    gi_wp2_with fail
    refine⟨trivial,?_⟩
    refine(CallsIn.inRound l' (callsIn_wide.2 (zq CP))).mono ?_
    rintro e X2 ⟨rfl,hs2,hg2⟩
    gi_wp2_with fail
    exact⟨hg2,(zq HI).put hs2 hg2 hbl (by omega) s2 hX⟩
   case iter=>
    intro lr X J hs hb' hJI hJb hY h0
    rw[sz3]at hs
    refine(lefts_iter 7 (by omega) lr W'.heap.size (W'.heap.size+1) b w.heap.size w2.heap.size E (.slice a5 l.length c5) l X J (fun q X1 hj=> ?_) hJb (fun q x X1 h1 h2 h3=>hY q x X1 h1 h2 h3) (by omega) h0).mono ?_
    ·have:=hJI _ _ hj
     exact⟨this.emp,this.sy,this.c1,this.c2⟩
    ·rintro e X' ⟨hv,hj⟩
     exact⟨hv,_,rfl,hj⟩
   case done=>
    intro xs X hE' hI hD'
    subst hE'
    have MK:Hid (Marks (w2.heap.size+2) X (markD Z3.heap.size::ds)):=⟨Z3.heap.size,rfl,by rw[sz3];omega,hD',fun D' hD2 e=>by have:=hI.ml D' hD2;rw[sz3]at e;omega,hI.mrk⟩
    have hXs:w2.heap.size+2≤X.heap.size:=by have:=(Array.getElem?_eq_some_iff.1 hI.c1).1;omega
    have HI:=zk hI
    have NX:Hid (pre++lefE E l=(p.1.take (k+1)).flatMap (lefE E)):=by
     show _=_
     rw[zq ST,zq hO]
    clear hI hD' HI0
    gi_wp2_with fail
    refine⟨⟨k+1,(k:Int)+1,markD Z3.heap.size::ds,pre++lefE E l,_,_,_,_,_,_,_,_,_,_,_,_,_,by omega,rfl,by omega,NX,by rw[List.length_append];omega,(zq HI).emp,(zq HI).set,(zq HI).bx,(zq HI).bel,hXs,MK⟩,?_⟩
    simp[intOf];omega
  ·obtain rfl:k=p.1.length:=by omega
   have q0:W'.cell? ⟨w2.heap.size+1,0,none⟩=some (.map (some w2.heap.size)):=by
    have:=zq hbx
    simp[World.cell?,this]
   have CK:=zk (keysN_l w2.heap.size W')
   have bb:Below W'.heap.size W' (W'.alloc (boxS w2.heap.size)):=Below.new1 _
   have CS:=zk (sortedN_l w2.heap.size W'.heap.size pre (W'.alloc (boxS w2.heap.size)) ((zq hL).later bb (zq hL).lt) (box_cell (heap_alloc_new W' (boxS w2.heap.size))) (by omega))
   have B4:=zk (Xj (zq hB) bb)
   have M4:=zk ((zq hM).later bb)
   have MEM:Hid (∀x,x∈pre↔leftP (P,K) (i:Int) x):=by
    intro x
    rw[zq HLP x,zq hO,List.take_of_length_le (Nat.le_refl _),List.mem_flatMap]
    constructor
    ·rintro⟨al,ha,hx⟩
     exact⟨al,ha,by rw[←lef_is (zq HE)];exact hx⟩
    ·rintro⟨al,ha,hx⟩
     exact⟨al,ha,by rw[lef_is (zq HE)];exact hx⟩
   have s4:w2.heap.size+2≤(W'.alloc (boxS w2.heap.size)).heap.size:=by simp;omega
   clear hE1 hL hbx hB hM hO HA H40 HFT HLP HE hx
   gi_wp2_with fail
   refine⟨trivial,?_⟩
   refine(callsIn_wide.2 (zq CK)).mono ?_
   rintro e w5 ⟨rfl,hw5⟩
   subst hw5
   gi_wp2_with fail
   refine⟨trivial,?_⟩
   refine(callsIn_wide.2 (zq CS)).mono ?_
   rintro e w6 ⟨v6,L,rfl,hp6,hm6,hv6,b6⟩
   have M6:=(zq M4).later b6
   have B6:=Xj (zq B4) b6
   have s6:=b6.size
   have H6:=zk (And.intro hp6 (And.intro hm6 hv6))
   clear CK CS hp6 hm6 hv6 b6
   gi_wp2_with fail
   refine Marks.leave _ _ M6 (by omega) fun X bX kX=> ?_
   obtain⟨hp6,hm6,hv6⟩:=zq H6
   refine⟨_,results_tmp rfl _ _ _,v6,L,rfl,hv6.off (by omega) kX,hp6,fun x=>(hm6 x).trans (zq MEM x),B6.trans (bX.mono (by omega))⟩
end Go.Proofs.YtcblkmlcbedomaaGreatDoor.Nl
namespace Go.Proofs.YtcblkmlcbedomaaGreatDoor.Rc
open Go.RowKit Go.Shelf Go.Proofs.YtcblkmlcbedomaaGreatDoor.T Go.Proofs.YtcblkmlcbedomaaGreatDoor.R Go.Proofs.YtcblkmlcbedomaaGreatDoor.F Go.Proofs.YtcblkmlcbedomaaGreatDoor.Nl Go.Proofs.YtcblkmlcbedomaaGreatDoor.K
theorem lef_sym {N:List Bool}:∀{l:List SY} {x:Int},x∈lefL N l→x∈symsA l
 | [],x,h=>by cases h
 |s::l,x,h=>by
  unfold lefL at h
  unfold symsA
  by_cases e:s.1=2
  ·rw[if_pos e]at h⊢
   rcases List.mem_cons.1 h with h|h
   ·exact List.mem_cons.2 (.inl h)
   ·by_cases e2:nulS N s=true
    ·rw[if_pos e2]at h
     exact List.mem_cons.2 (.inr (lef_sym h))
    ·rw[if_neg e2]at h;cases h
  ·rw[if_neg e]at h;cases h
theorem left_wi {g:GR} {n:Nat} {x:Int} (h:leftP g (n:Int) x):Wi g.1 n x:=by
 obtain⟨-,i,p,a,e,hi,ha,hx⟩:=h
 obtain rfl:n=i:=by omega
 refine Wi.one ?_
 unfold symsN
 rw[hi]
 exact List.mem_flatMap.2 ⟨a,ha,lef_sym hx⟩
theorem wi_rng {P:List PRD} (hg:gramB P=true) {n:Nat} {x:Int} (h:Wi P n x):∃q:Nat,x=(q:Int)∧q<P.length:=by
 obtain⟨m,hm⟩:=h.last
 unfold symsN at hm
 cases e:P[m]? with
 |none=>rw[e]at hm;cases hm
 |some p=>
  rw[e]at hm
  exact(symsP_rng hg (List.mem_of_getElem? e)).2 x hm
theorem ceI_at {w:World} {a:Option Addr} {n c:Nat} {l:List Int} (h:CeV (Value.int .i64) w (.slice a n c) l) {j:Nat} {x:Int} (hj:l[j]? =some x):∃g off,a=some ⟨g,off,none⟩∧g<w.heap.size∧w.cell? ⟨g,off+j,none⟩=some (.int .i64 x):=by
 obtain⟨a',c',e,-,-,h3⟩:=h
 injection e with e1 e2 e3
 subst e1
 exact h3 j x hj
theorem fromS.some {g:GR} {n:Int} {S:List Bool} (h:fromS g n S) (h0:S.length≠0):gramB g.1=true∧∃i:Nat,n=(i:Int)∧i<g.1.length∧S.length=g.1.length∧∀m:Nat,S.getD m false=true↔Wi g.1 i (m:Int):=by
 rcases h with ⟨hg,h1,h2,h3,h4⟩|⟨-,rfl⟩
 ·obtain⟨i,rfl⟩:=Int.eq_ofNat_of_zero_le h1
  exact⟨hg,i,rfl,by omega,h3,h4⟩
 ·exact absurd rfl h0
theorem reachWithin_walk (v:Value) (g:GR) (n m:Int) (w:World) (h:GrM w v g) (hf:∀p∈g.1,∀l∈p.1,∀s∈l,yQ s.2.2):
  Calls Tryz.prog 10 #[v,.int .i64 n,.int .i64 m] w fun e w'=>e= .returned (.bool true)∧Below w.heap.size w w':=by
 have CA:=zk (fun W=>awake11_l W)
 have CR:=zk (fun W (bW:Below w.heap.size w W) (i:Int)=>From_l v g i W (h.later bW))
 have CL:=zk (fun(i:Nat) (p:PRD) (hi:g.1[i]? =some p) (hb:gramB g.1=true) W (bW:Below w.heap.size w W)=>nLefts_yes v g i p W (h.later bW) hb hi)
 obtain⟨a,c,aK,cK,rfl,hp,-⟩:=id h
 have CF:=zk (fun W (bW:Below w.heap.size w W)=>few_l a c g.2.length cK aK g.1 W ((hp.later bW).prl hf))
 generalize hnK:g.2.length=nK at*
 generalize hnP:g.1.length=nP at*
 have HNP:=zk hnP
 clear h hp hf hnK hnP
 go_enter Tryz.func10,Tryz.ntmps10
 go_wp2_with fail
 have G0:=heap_alloc_new w (.cells #[.slice a nP c,.slice aK nK cK] 25)
 refine(zq CA _).mono ?_
 clear CA
 rintro e w1 ⟨rfl,b1⟩
 have G1:=(b1.block _ (Array.getElem?_eq_some_iff.1 G0).1).trans G0
 obtain⟨y0,y1⟩:=XX G1
 have B1:=zk (Xj (Below.new1 _) b1)
 clear b1 G0
 go_wp2_with fail
 refine(zq CF _ (zq B1)).mono ?_
 clear CF
 rintro e w2 ⟨⟨few,rfl⟩,b2⟩
 have G2:=(b2.block _ (Array.getElem?_eq_some_iff.1 G1).1).trans G1
 have B2:=zk (Xj (zq B1) b2)
 clear b2 G1 B1 y0 y1
 obtain⟨y0,y1⟩:=XX G2
 go_wp2_with fail
 refine(zq CR _ (zq B2) n).mono ?_
 rintro e w3 ⟨v3,X,rfl,hv3,hX,b3⟩
 have G3:=(b3.block _ (Array.getElem?_eq_some_iff.1 G2).1).trans G2
 have B3:=zk (Xj (zq B2) b3)
 have KX:=zk hX
 have VX:Hid (CeV Value.bool w3 v3 X):=ceOwn hv3
 obtain⟨a3,n3,c3,rfl⟩:=own_form3 hv3
 clear G2 y0 y1 b3 hX hv3 B2
 obtain⟨y0,y1⟩:=XX G3
 go_wp2_with fail
 refine(zq CR _ (zq B3) m).mono ?_
 clear CR
 rintro e w4 ⟨v4,Y,rfl,hv4,hY,b4⟩
 have G4:=(b4.block _ (Array.getElem?_eq_some_iff.1 G3).1).trans G3
 have B4:=zk (Xj (zq B3) b4)
 have KY:=zk hY
 have VX4:=zk ((zq VX).later b4)
 have VY4:Hid (CeV Value.bool w4 v4 Y):=ceOwn hv4
 obtain⟨a4,n4,c4,rfl⟩:=own_form3 hv4
 clear G3 y0 y1 b4 hY hv4 B3 VX
 obtain⟨y0,y1⟩:=XX G4
 obtain⟨a',c',e',hx1,hx2,-⟩:=id (zq VX4)
 injection e' with e1 e2 e3
 subst e1;subst e2;subst e3
 obtain⟨a',c',e',hy1,hy2,-⟩:=id (zq VY4)
 injection e' with e1 e2 e3
 subst e1;subst e2;subst e3
 unfold maxLen at hx2 hy2
 generalize hXl:X.length=lx at*
 generalize hYl:Y.length=ly at*
 have HXL:=zk hXl
 have HYL:=zk hYl
 clear hXl hYl G4
 cases few with
 |false=>
  go_wp2_with fail
  go_ret
  exact⟨rfl,zq B4⟩
 |true=>
  by_cases hx0:lx=0
  ·subst hx0
   go_wp2_with fail
   go_ret
   exact⟨rfl,zq B4⟩
  ·by_cases hy0:ly=0
   ·subst hy0
    have q1:((lx:Int)==0)=false:=beq_eq_false_iff_ne.2 (by omega)
    have q2:(lx==0)=false:=beq_eq_false_iff_ne.2 (by omega)
    go_wp2_with fail
    go_ret
    exact⟨rfl,zq B4⟩
   ·obtain⟨hg,i,rfl,hi,hlX,hWX⟩:=(zq KX).some (by rw[zq HXL];exact hx0)
    obtain⟨-,j,rfl,hj,hlY,hWY⟩:=(zq KY).some (by rw[zq HYL];exact hy0)
    have H60:=(Xv hg).2.1
    have tz:g.1.length=lx:=by have:=zq HXL;omega
    have tz2:ly=lx:=by have:=zq HYL;omega
    have tz3:nP=lx:=by have:=zq HNP;omega
    subst tz2
    subst tz3
    have hn60:nP≤60:=by omega
    have hin:i<nP:=by omega
    have hjn:j<nP:=by omega
    have q1:((nP:Int)==0)=false:=beq_eq_false_iff_ne.2 (by omega)
    have q2:(nP==0)=false:=beq_eq_false_iff_ne.2 (by omega)
    have q3:decide ((i:Int)<0)=false:=decide_eq_false (by omega)
    have q4:decide ((nP:Int)≤(i:Int))=false:=decide_eq_false (by omega)
    have q5:decide (nP≤i)=false:=decide_eq_false (by omega)
    have q6:decide ((j:Int)<0)=false:=decide_eq_false (by omega)
    have q7:decide ((nP:Int)≤(j:Int))=false:=decide_eq_false (by omega)
    have q8:decide (nP≤j)=false:=decide_eq_false (by omega)
    have HWX:=zk hWX
    have HWY:=zk hWY
    have CL2:=zk (zq CL i g.1[i] (List.getElem?_eq_getElem hi) hg)
    have xat:∀k,k<nP→∃g3 o3,a3=some ⟨g3,o3,none⟩∧w4.cell? ⟨g3,o3+k,none⟩=some (.bool (X.getD k false)):=fun k hk=>by
     obtain⟨a',c',e',-,-,h3⟩:=zq VX4
     injection e' with e1 e2 e3
     have hk':k<X.length:=by rw[zq HXL];exact hk
     obtain⟨g3,o3,e3,-,q⟩:=h3 k _ (List.getElem?_eq_getElem hk')
     exact⟨g3,o3,e1.trans e3,by rw[q,List.getD_eq_getElem?_getD,List.getElem?_eq_getElem hk'];rfl⟩
    have yat:∀k,k<nP→∃g3 o3,a4=some ⟨g3,o3,none⟩∧w4.cell? ⟨g3,o3+k,none⟩=some (.bool (Y.getD k false)):=fun k hk=>by
     obtain⟨a',c',e',-,-,h3⟩:=zq VY4
     injection e' with e1 e2 e3
     have hk':k<Y.length:=by rw[zq HYL];exact hk
     obtain⟨g3,o3,e3,-,q⟩:=h3 k _ (List.getElem?_eq_getElem hk')
     exact⟨g3,o3,e1.trans e3,by rw[q,List.getD_eq_getElem?_getD,List.getElem?_eq_getElem hk'];rfl⟩
    obtain⟨g3,o3,rfl,xj_⟩:=xat j hjn
    obtain⟨g4,o4,rfl,-⟩:=yat j hjn
    have XAT:Hid (∀k,k<nP→w4.cell? ⟨g3,o3+k,none⟩=some (.bool (X.getD k false))):=fun k hk=>by
     obtain⟨g',o',e,q⟩:=xat k hk
     injection e with e;injection e with e1 e2;subst e1;subst e2;exact q
    have YAT:Hid (∀k,k<nP→w4.cell? ⟨g4,o4+k,none⟩=some (.bool (Y.getD k false))):=fun k hk=>by
     obtain⟨g',o',e,q⟩:=yat k hk
     injection e with e;injection e with e1 e2;subst e1;subst e2;exact q
    have XLT:Hid (g3<w4.heap.size):=World.block_lt_of_cell? _ ⟨g3,o3+j,none⟩ xj_
    have HXJ:=zk (hWX j)
    generalize hxj:X.getD j false=xb at*
    have HXB:=zk hxj
    have HGG:=zk hg
    have HNK:=zk tz
    clear hWX hWY xat yat KX KY hlX hlY H60 hi hj hg hxj CL tz
    go_wp2_with fail
    go_loopw [11] (fun z wr=>∃k:Nat,k≤nP∧z= .int .i64 (k:Int)∧wr=w4) (fun z _=>nP-(intOf z).toNat)
    case atStart=>exact⟨0,Nat.zero_le _,rfl,rfl⟩
    case round=>
     obtain⟨k,hk,rfl,rfl⟩:=hrel
     by_cases hlt:k<nP
     ·have xk_:=zq XAT k hlt
      have yk_:=zq YAT k hlt
      have KEY:Hid (xb=true→Y.getD k false=true→X.getD k false=true):=fun h1 h2=>
       (zq HWX k).2 (Wi.trans ((zq HXJ).1 h1) ((zq HWY k).1 h2))
      generalize X.getD k false=xk' at*
      generalize Y.getD k false=yk' at*
      cases xb with
      |false=>
       go_wp2_with fail
       exact⟨⟨k+1,by omega,by simp,trivial⟩,by simp[intOf];omega⟩
      |true=>
       cases yk' with
       |false=>
        go_wp2_with fail
        exact⟨⟨k+1,by omega,by simp,trivial⟩,by simp[intOf];omega⟩
       |true=>
        have e:=zq KEY rfl rfl
        subst e
        go_wp2_with fail
        exact⟨⟨k+1,by omega,by simp,trivial⟩,by simp[intOf];omega⟩
     ·obtain rfl:k=nP:=by omega
      go_wp2_with fail
      refine(zq CL2 _ (zq B4)).mono ?_
      rintro e w5 ⟨vL,L,rfl,iL,-,mL,b5⟩
      obtain⟨a5,c5,rfl,h5a,h5b,-⟩:=inv_nsB iL (Nat.le_refl _)
      unfold maxLen at h5b
      have NL:Hid (CeV (Value.int .i64) w5 (.slice a5 L.length c5) L):=Ns.of_own iL
      have LEF:Hid (∀x∈L,∃q:Nat,x=(q:Int)∧q<k∧X.getD q false=true):=fun x hx=>by
       have hw:=left_wi ((mL x).1 hx)
       obtain⟨q,e,hq⟩:=wi_rng (zq HGG) hw
       exact⟨q,e,by rw[←zq HNK];exact hq,(zq HWX q).2 (by rw[←e];exact hw)⟩
      have XA5:Hid (∀q,q<k→w5.cell? ⟨g3,o3+q,none⟩=some (.bool (X.getD q false))):=fun q hq=>(b5.cell (p:=⟨g3,o3+q,none⟩) (zq XLT)).trans (zq XAT q hq)
      have B5:=zk (Xj (zq B4) b5)
      generalize hnl:L.length=nl at*
      have HNL:=zk hnl
      clear iL mL b5 CL2 xj_ y0 y1 VX4 VY4 XAT YAT XLT hnl B4
      go_wp2_with fail
      go_loopw [13] (fun z wr=>∃i':Nat,i'≤nl∧z= .int .i64 (i':Int)∧wr=w5) (fun z _=>nl-(intOf z).toNat)
      case atStart=>exact⟨0,Nat.zero_le _,rfl,rfl⟩
      case round=>
       obtain⟨z,hz,rfl,rfl⟩:=hrel
       by_cases hzl:z<nl
       ·have hx:=List.getElem?_eq_getElem (show z<L.length by rw[zq HNL];exact hzl)
        obtain⟨q,eq,hq,hxq⟩:=zq LEF _ (List.getElem_mem (show z<L.length by rw[zq HNL];exact hzl))
        rw[eq]at hx
        obtain⟨g6,o6,rfl,-,ql⟩:=ceI_at (zq NL) hx
        have xq:=zq XA5 q hq
        rw[hxq]at xq
        have d1:decide ((q:Int)<0)=false:=decide_eq_false (by omega)
        have d2:decide ((k:Int)≤(q:Int))=false:=decide_eq_false (by omega)
        have d3:decide (k≤q)=false:=decide_eq_false (by omega)
        clear hx eq hxq
        go_wp2_with fail
        exact⟨⟨z+1,by omega,by simp,trivial⟩,by simp[intOf];omega⟩
       ·obtain rfl:z=nl:=by omega
        go_wp2_with fail
        go_ret
        exact⟨rfl,zq B5⟩
end Go.Proofs.YtcblkmlcbedomaaGreatDoor.Rc
