/- Parts of the proof that stand ahead of it (K 12). -/
import Derived.Test.YtcblkmlcbedomaaGreatDoorKM8
import Derived.Test.YtcblkmlcbedomaaGreatDoorKM11
import Derived.Test.YtcblkmlcbedomaaGreatDoorTM32
set_option linter.unusedVariables false
set_option linter.unusedSimpArgs false
set_option maxRecDepth 20000
set_option maxHeartbeats 16000000
namespace Go.Proofs.YtcblkmlcbedomaaGreatDoor.Nl
open Go.RowKit Go.Shelf Go.Proofs.YtcblkmlcbedomaaGreatDoor.T Go.Proofs.YtcblkmlcbedomaaGreatDoor.R Go.Proofs.YtcblkmlcbedomaaGreatDoor.F
theorem gram_ok {P:List PRD} (h:gramB P=true):1≤P.length∧P.length≤60∧(∀p∈P,p.1.length≤8)∧(∀p∈P,∀a∈p.1,a.length≤40)∧okN P∧(∀p∈P,∀a∈p.1,∀s∈a,yQ s.2.2):=by
 unfold gramB at h
 simp only[Bool.and_eq_true,decide_eq_true_eq,List.all_eq_true]at h
 obtain⟨h1,h2,h3⟩:=h
 have key:∀p∈P,p.1.length≤8∧(∀a∈p.1,a.length≤40)∧∀a∈p.1,∀s∈a,symB s P.length=true:=by
  intro p hp
  have:=h3 p hp
  unfold prodB fitsB at this
  simp only[Bool.and_eq_true,decide_eq_true_eq,List.all_eq_true,Bool.not_eq_true',List.any_eq_false,longB]at this
  obtain⟨⟨-,h8,h40⟩,-,-,-,hs⟩:=this
  exact⟨h8,fun a ha=>by have:=h40 a ha;simp at this;omega,fun a ha s hs'=>hs a ha s hs'⟩
 have sy:∀p∈P,∀a∈p.1,∀s∈a,(s.1=2→0≤s.2.2∧s.2.2<P.length)∧yQ s.2.2:=by
  intro p hp a ha s hs
  have:=(key p hp).2.2 a ha s hs
  unfold symB at this
  split at this
  ·rename_i h0
   simp only[Bool.and_eq_true,decide_eq_true_eq]at this
   exact⟨fun c=>by omega,by rw[this.1];unfold yQ;omega⟩
  ·split at this
   ·rename_i h0
    simp only[Bool.and_eq_true,decide_eq_true_eq]at this
    exact⟨fun c=>by omega,by rw[this.1];unfold yQ;omega⟩
   ·split at this
    ·simp only[Bool.and_eq_true,decide_eq_true_eq]at this
     exact⟨fun _=>⟨this.1,this.2.1⟩,by have:=this.1;have:=this;unfold yQ;omega⟩
    ·cases this
 exact⟨h1,h2,fun p hp=>(key p hp).1,fun p hp=>(key p hp).2.1,fun p hp a ha s hs=>(sy p hp a ha s hs).1,fun p hp a ha s hs=>(sy p hp a ha s hs).2⟩
theorem SyM.later {w X:World} {v:Value} {l:List SY} (h:SyM w v l) (k:Below w.heap.size w X):SyM X v l:=by
 obtain⟨a,c,e,h1,h2,h3⟩:=h
 refine⟨a,c,e,h1,h2,fun j s hj=> ?_⟩
 obtain⟨g,off,x,kk,ha,hg,q0,q1,q2,hr⟩:=h3 j s hj
 exact⟨g,off,x,kk,ha,Nat.lt_of_lt_of_le hg k.size,(k.cell (p:=⟨g,off+3*j,none⟩) hg).trans q0,(k.cell (p:=⟨g,off+3*j+1,none⟩) hg).trans q1,(k.cell (p:=⟨g,off+3*j+2,none⟩) hg).trans q2,hr.later k (Nat.le_refl _)⟩
theorem AltM.later {w X:World} {v:Value} {A:List (List SY)} (h:AltM w v A) (k:Below w.heap.size w X):AltM X v A:=by
 obtain⟨a,c,e,h1,h2,h3⟩:=h
 refine⟨a,c,e,h1,h2,fun j l hj=> ?_⟩
 obtain⟨g,off,u,ha,hg,q0,hs⟩:=h3 j l hj
 exact⟨g,off,u,ha,Nat.lt_of_lt_of_le hg k.size,(k.cell (p:=⟨g,off+j,none⟩) hg).trans q0,hs.later k⟩
theorem NotM.later {w X:World} {v:Value} {N:List (Int×Int)} (h:NotM w v N) (k:Below w.heap.size w X):NotM X v N:=by
 obtain⟨a,c,e,hr⟩:=h
 exact⟨a,c,e,hr.later k (Nat.le_refl _)⟩
theorem PrM.later {w X:World} {v:Value} {P:List PRD} (h:PrM w v P) (k:Below w.heap.size w X):PrM X v P:=by
 obtain⟨a,c,e,h1,h2,h3⟩:=h
 refine⟨a,c,e,h1,h2,fun j p hj=> ?_⟩
 obtain⟨g,off,u,u2,ha,hg,q0,q1,q2,hA,hN⟩:=h3 j p hj
 exact⟨g,off,u,u2,ha,Nat.lt_of_lt_of_le hg k.size,(k.cell (p:=⟨g,off+3*j,none⟩) hg).trans q0,(k.cell (p:=⟨g,off+3*j+1,none⟩) hg).trans q1,(k.cell (p:=⟨g,off+3*j+2,none⟩) hg).trans q2,hA.later k,hN.later k⟩
theorem GrM.later {w X:World} {v:Value} {g:GR} (h:GrM w v g) (k:Below w.heap.size w X):GrM X v g:=by
 obtain⟨a,c,aK,cK,e,hp,hk⟩:=h
 exact⟨a,c,aK,cK,e,hp.later k,hk⟩
theorem SyM.form {w:World} {x:Option Addr} {n c:Nat} {l:List SY} (h:SyM w (.slice x n c) l):n=l.length∧l.length≤c∧c≤maxLen:=by
 obtain⟨a,c',e,h1,h2,-⟩:=h
 injection e with e1 e2 e3
 subst e3
 exact⟨e2,h1,h2⟩
theorem AltM.form {w:World} {v:Value} {A:List (List SY)} (h:AltM w v A):∃a c,v= .slice a A.length c∧A.length≤c∧c≤maxLen:=by
 obtain⟨a,c,e,h1,h2,-⟩:=h
 exact⟨a,c,e,h1,h2⟩
theorem drop_of {α:Type} {l:List α} {j:Nat} (h:j<l.length):l.drop j=l[j]::l.drop (j+1)∧l[j]∈l:=⟨List.drop_eq_getElem_cons h,List.getElem_mem h⟩
theorem AltM.at {w:World} {a:Option Addr} {c:Nat} {A:List (List SY)} (h:AltM w (.slice a A.length c) A) (k:Nat) (hk:k<A.length):∃g off x cc l,a=some ⟨g,off,none⟩∧g<w.heap.size∧w.cell? ⟨g,off+k,none⟩=some (.slice x l.length cc)∧A.drop k=l::A.drop (k+1)∧SyM w (.slice x l.length cc) l:=by
 obtain⟨a',c',e,-,-,h3⟩:=h
 injection e with e1 e2 e3
 subst e1
 obtain⟨g,off,u,ha,hg,q0,hs⟩:=h3 k A[k] (by simp[hk])
 obtain⟨x,cc,rfl,-⟩:=id hs
 exact⟨g,off,x,cc,A[k],ha,hg,q0,(drop_of hk).1,hs⟩
theorem symM_at {w:World} {x:Option Addr} {cc n:Nat} {l:List SY} (h:SyM w (.slice x n cc) l) (j:Nat) (hj:j<l.length):∃g off s a c,x=some ⟨g,off,none⟩∧g<w.heap.size∧w.cell? ⟨g,off+3*j,none⟩=some (.int .i64 s.1)∧w.cell? ⟨g,off+3*j+1,none⟩=some (.slice a s.2.1.length c)∧w.cell? ⟨g,off+3*j+2,none⟩=some (.int .i64 s.2.2)∧Rs w a s.2.1.length c s.2.1∧True∧l.drop j=s::l.drop (j+1)∧s∈l:=by
 obtain⟨a',c',e,-,-,h3⟩:=h
 injection e with e1 e2 e3
 subst e1
 obtain⟨g,off,y,k,ha,hg,q0,q1,q2,hr⟩:=h3 j l[j] (by simp[hj])
 exact⟨g,off,l[j],y,k,ha,hg,q0,q1,q2,hr,trivial,(drop_of hj).1,(drop_of hj).2⟩
theorem prodM_at {w:World} {a:Option Addr} {c:Nat} {P:List PRD} (h:PrM w (.slice a P.length c) P) (j:Nat) (hj:j<P.length):∃g off x0 n0 k0 x2 n2 k2 p,a=some ⟨g,off,none⟩∧g<w.heap.size∧w.cell? ⟨g,off+3*j,none⟩=some (.slice x0 n0 k0)∧w.cell? ⟨g,off+3*j+1,none⟩=some (.int .i64 p.2.1)∧w.cell? ⟨g,off+3*j+2,none⟩=some (.slice x2 n2 k2)∧AltM w (.slice x0 n0 k0) p.1∧NotM w (.slice x2 n2 k2) p.2.2∧P.drop j=p::P.drop (j+1)∧p∈P:=by
 obtain⟨a',c',e,-,-,h3⟩:=h
 injection e with e1 e2 e3
 subst e1
 obtain⟨g,off,u,u2,ha,hg,q0,q1,q2,hA,hN⟩:=h3 j P[j] (by simp[hj])
 obtain⟨x0,k0,rfl,-⟩:=id hA
 obtain⟨x2,k2,rfl,-⟩:=id hN
 exact⟨g,off,x0,_,k0,x2,_,k2,P[j],ha,hg,q0,q1,q2,hA,hN,(drop_of hj).1,(drop_of hj).2⟩
/-! ### What came of flat, and what package null reads -/
theorem SyM.syl {w:World} {v:Value} {l:List SY} (h:SyM w v l) (hf:∀s∈l,yQ s.2.2):SyL w w.heap.size v l:=by
 obtain⟨a,c,e,h1,h2,h3⟩:=h
 refine⟨a,c,e,h1,h2,fun j s hj=> ?_⟩
 obtain⟨g,off,x,k,ha,hg,q0,q1,q2,-⟩:=h3 j s hj
 exact⟨hf s (List.mem_of_getElem? hj),g,off,x,_,k,ha,hg,q0,q1,q2⟩
theorem PrM.prl {w:World} {v:Value} {P:List PRD} (h:PrM w v P) (hf:∀p∈P,∀a∈p.1,∀s∈a,yQ s.2.2):PrL w w.heap.size v P:=by
 obtain⟨a,c,e,h1,h2,h3⟩:=h
 refine⟨a,c,e,h1,h2,fun j p hj=> ?_⟩
 obtain⟨g,off,u,u2,ha,hg,q0,q1,q2,hA,hN⟩:=h3 j p hj
 obtain⟨x2,k2,rfl,-⟩:=hN
 refine⟨g,off,u,_,x2,_,k2,ha,hg,q0,q1,q2,?_⟩
 obtain⟨aA,cA,eA,hA1,hA2,hA3⟩:=hA
 refine⟨aA,cA,eA,hA1,hA2,fun j' l hj'=> ?_⟩
 obtain⟨g',off',u',ha',hg',q0',hs⟩:=hA3 j' l hj'
 exact⟨g',off',u',ha',hg',q0',hs.syl (hf p (List.mem_of_getElem? hj) l (List.mem_of_getElem? hj'))⟩
theorem ixFuncM_l (a:Option Addr) (c:Nat) (A:List (List SY)) (w:World) (h:AltM w (.slice a A.length c) A) (hl:A.length≤1000000):
  Calls Tryz.prog 167 #[.slice a A.length c,.func (.func 123) #[] #[]] w fun e w'=>e= .returned (.int .i64 (ixL A 0))∧w'=w:=by
 have hc:A.length≤c∧c≤maxLen:=by obtain⟨a',c',e,h1,h2⟩:=h.form;injection e with e1 e2 e3;subst e3;exact⟨h1,h2⟩
 obtain⟨hc1,hc2⟩:=hc
 unfold maxLen at hc2
 have HV:=zk h
 have CT:=zk (fun x n cc W=>tooLong_l x n cc W)
 clear h
 generalize hn:A.length=n at*
 have HN:=zk hn
 clear hn
 go_enter Tryz.func167,Tryz.ntmps167
 go_wp2_with fail
 go_loopw [8] (fun i wr=>∃k:Nat,k≤n∧i= .int .i64 (k:Int)∧Hid (ixL A 0=ixL (A.drop k) k)∧wr=w) (fun i _=>n-(intOf i).toNat)
 case atStart=>exact⟨0,Nat.zero_le _,rfl,rfl,rfl⟩
 case round=>
  obtain⟨k,hk,rfl,hA,hw⟩:=hrel
  subst hw
  by_cases hlt:k<n
  ·have HV1:=zq HV
   rw[←zq HN]at HV1
   obtain⟨g,off,x,cc,l,rfl,hg,hcell,hd,-⟩:=HV1.at k (by rw[zq HN];exact hlt)
   clear HV1
   by_cases h40:40<l.length
   ·have hb:decide ((40:Int)<(l.length:Int))=true:=decide_eq_true (by omega)
    have FIN:Hid (ixL A 0=(k:Int)):=by show _=_;rw[zq hA,hd];unfold ixL;rw[if_pos h40]
    clear hd h40 hA
    go_wp2_with fail
    refine(zq CT _ _ _ _).mono ?_
    rintro e w1 ⟨rfl,hw1⟩
    subst hw1
    clear CT
    rw[hb]
    go_wp2_with fail
    go_ret
    exact⟨ret_int (zq FIN).symm,rfl⟩
   ·have hb:decide ((40:Int)<(l.length:Int))=false:=decide_eq_false (by omega)
    have NXT:Hid (ixL A 0=ixL (A.drop (k+1)) (k+1)):=by show _=_;rw[zq hA,hd];conv=>lhs;unfold ixL;rw[if_neg h40]
    clear hd h40 hA
    go_wp2_with fail
    refine(zq CT _ _ _ _).mono ?_
    rintro e w1 ⟨rfl,hw1⟩
    subst hw1
    rw[hb]
    go_wp2_with fail
    go_roundw
    case rel=>exact⟨k+1,by omega,by simp,NXT,trivial⟩
    case measure=>simp only[intOf];omega
  ·obtain rfl:k=n:=by omega
   have FIN:Hid (ixL A 0= -1):=by
    show _=_
    rw[zq hA,List.drop_eq_nil_of_le (by rw[zq HN];exact Nat.le_refl _)]
    rfl
   go_wp2_with fail
   go_ret
   exact⟨ret_int (zq FIN).symm,rfl⟩
theorem contFM_l (a:Option Addr) (c:Nat) (A:List (List SY)) (w:World) (h:AltM w (.slice a A.length c) A) (hl:A.length≤1000000):
  Calls Tryz.prog 122 #[.slice a A.length c,.func (.func 123) #[] #[]] w fun e w'=>e= .returned (.bool (A.any longB))∧w'=w:=by
 have C:=zk (ixFuncM_l a c A w h hl)
 rw[←ixL_any A 0]
 clear h
 generalize ixL A 0=r at*
 generalize A.length=n at*
 go_enter Tryz.func122,Tryz.ntmps122
 go_wp2_with fail
 refine(zq C).mono ?_
 rintro e w1 ⟨rfl,hw1⟩
 subst hw1
 clear C
 go_wp2_with fail
 go_ret
 exact⟨rfl,rfl⟩
theorem ffitsM_l (v:Value) (A:List (List SY)) (w:World) (h:AltM w v A):
  Calls Tryz.prog 78 #[v] w fun e w'=>e= .returned (.bool (fitsB A))∧w'=w:=by
 obtain⟨a,c,rfl,-,-⟩:=h.form
 have C:=zk (fun h8:A.length≤8=>contFM_l a c A w h (by omega))
 unfold fitsB
 clear h
 generalize A.any longB=r at*
 generalize A.length=n at*
 by_cases h1:1≤n
 ·by_cases h8:n≤8
  ·have b1:decide ((1:Int)≤(n:Int))=true:=decide_eq_true (by omega)
   have b8:decide ((n:Int)≤8)=true:=decide_eq_true (by omega)
   have C:=zk (zq C h8)
   rw[decide_eq_true h1,decide_eq_true h8]
   go_enter Tryz.func78,Tryz.ntmps78
   go_wp2_with fail
   refine(zq C).mono ?_
   rintro e w1 ⟨rfl,hw1⟩
   subst hw1
   clear C
   go_wp2_with fail
   go_ret
   exact⟨by simp,rfl⟩
  ·have b1:decide ((1:Int)≤(n:Int))=true:=decide_eq_true (by omega)
   have b8:decide ((n:Int)≤8)=false:=decide_eq_false (by omega)
   rw[decide_eq_true h1,decide_eq_false h8]
   clear C
   go_enter Tryz.func78,Tryz.ntmps78
   go_wp2_with fail
   go_ret
   exact⟨rfl,rfl⟩
 ·have b1:decide ((1:Int)≤(n:Int))=false:=decide_eq_false (by omega)
  rw[decide_eq_false h1]
  clear C
  go_enter Tryz.func78,Tryz.ntmps78
  go_wp2_with fail
  go_ret
  exact⟨rfl,rfl⟩
theorem mayProdM_l (p:PRD) (v0 v2:Value) (many:Int) (w:World) (ha:AltM w v0 p.1) (hn:NotM w v2 p.2.2):
  Calls Tryz.prog 49 #[.agg #[v0,.int .i64 p.2.1,v2],.int .i64 many] w fun e w'=>e= .returned (.bool (prodB p many))∧Below w.heap.size w w':=by
 have B1:∀o,Below w.heap.size w (w.alloc o):=fun o=>Below.new1 o
 obtain⟨A,mk,N⟩:=p
 simp only at ha hn⊢
 obtain⟨aN,cN,rfl,rN⟩:=hn
 have CF:=zk (fun W (bW:Below w.heap.size w W)=>ffitsM_l v0 A W (ha.later bW))
 have CM:=zk (fun W (bW:Below w.heap.size w W)=>rgMay_any aN N.length cN N W (rN.later bW (Nat.le_refl _)))
 obtain⟨a0,c0,rfl,hc0,hc1⟩:=ha.form
 unfold maxLen at hc1
 have HA:=zk ha
 clear ha rN
 unfold prodB
 simp only
 generalize hTT:(A.all fun l=>l.all fun s=>symB s many)=TT at*
 have HTT:=zk hTT
 clear hTT
 generalize fitsB A=fb at*
 generalize G.zo N=mb at*
 generalize N.length=nN at*
 generalize hnA:A.length=nA at*
 have HNA:=zk hnA
 clear hnA
 cases fb with
 |false=>
  clear CM
  go_enter Tryz.func49,Tryz.ntmps49
  go_wp2_with fail
  refine(zq CF _ (B1 _)).mono ?_
  rintro e w1 ⟨rfl,hw1⟩
  subst hw1
  clear CF
  go_wp2_with fail
  go_ret
  exact⟨by simp,B1 _⟩
 |true=>
  by_cases h0:0≤mk
  ·by_cases h63:mk≤63
   ·have b1:decide (mk<0)=false:=decide_eq_false (by omega)
    have b2:decide (63<mk)=false:=decide_eq_false (by omega)
    rw[decide_eq_true h0,decide_eq_true h63]
    clear h0 h63
    cases mb with
    |false=>
     go_enter Tryz.func49,Tryz.ntmps49
     go_wp2_with fail
     refine(zq CF _ (B1 _)).mono ?_
     rintro e w1 ⟨rfl,hw1⟩
     subst hw1
     clear CF
     go_wp2_with fail
     refine(zq CM _ (B1 _)).mono ?_
     rintro e w1 ⟨rfl,b1⟩
     clear CM
     go_wp2_with fail
     go_ret
     exact⟨by simp,zY (B1 _) b1⟩
    |true=>
     go_enter Tryz.func49,Tryz.ntmps49
     go_wp2_with fail
     refine(zq CF _ (B1 _)).mono ?_
     rintro e w1 ⟨rfl,hw1⟩
     subst hw1
     clear CF
     go_wp2_with fail
     refine(zq CM _ (B1 _)).mono ?_
     rintro e w1 ⟨rfl,b1⟩
     clear CM
     have BB:=zk (zY (B1 _) b1)
     have s1:=(zq BB).size
     obtain⟨⟨x0,x1,x2⟩,-⟩:=jJ (ze b1)
     clear b1
     go_wp2_with fail
     go_loopw [32] (fun i wr=>∃(j:Nat),j≤nA∧i= .int .i64 (j:Int)∧Hid ((A.all fun l=>l.all fun s=>symB s many)=((A.drop j).all fun l=>l.all fun s=>symB s many))∧Hid (Below w.heap.size w wr)∧w.heap.size≤wr.heap.size) (fun i _=>nA-(intOf i).toNat)
     case atStart=>exact⟨0,Nat.zero_le _,rfl,rfl,BB,s1⟩
     case round=>
      obtain⟨j,hj,rfl,hO,hBo,hso⟩:=hrel
      by_cases hlt2:j<nA
      ·have HA1:=(zq HA).later (zq hBo)
       rw[←zq HNA]at HA1
       obtain⟨g,off,x,cc,l,rfl,hg,q,hd,hsv⟩:=HA1.at j (by rw[zq HNA];exact hlt2)
       have HD2:=zk hd
       have HSV:=zk hsv
       obtain⟨-,hcc1,hcc2⟩:=hsv.form
       unfold maxLen at hcc2
       clear HA1 hd hsv
       generalize hWr:wr=W4 at*
       clear hWr
       go_wp2_with fail
       go_loopw [38] (fun i wr=>∃(k:Nat),k≤l.length∧i= .int .i64 (k:Int)∧Hid (l.all (fun s=>symB s many)=(l.drop k).all fun s=>symB s many)∧Hid (Below W4.heap.size W4 wr)∧W4.heap.size≤wr.heap.size) (fun i _=>l.length-(intOf i).toNat)
       case atStart=>exact⟨0,Nat.zero_le _,rfl,rfl,Below.refl _ _,Nat.le_refl _⟩
       case round=>
        obtain⟨k,hk,rfl,hI,hB2,hs2⟩:=hrel
        by_cases hlt3:k<l.length
        ·obtain⟨gs,os,s,a3,c3,rfl,hgs,q0,q1,q2,rs3,ty3,hd3,hm3⟩:=symM_at ((zq HSV).later (zq hB2)) k hlt3
         have HD3:=zk hd3
         have CY:=zk (fun W (bW:Below wr.heap.size wr W)=>maySym_l s a3 c3 many W (rs3.later bW (Nat.le_refl _)))
         have k3:k*3=3*k:=by omega
         have STEP:Hid (l.all (fun s=>symB s many)=(symB s many&&(l.drop (k+1)).all fun s=>symB s many)):=by show _=_;rw[zq hI,zq HD3];rfl
         clear rs3 ty3 hd3 hm3 hI
         generalize s.1=s1 at*
         generalize s.2.2=s2 at*
         generalize s.2.1.length=s3 at*
         have BN:=fun o=>Below.new1 (w:=wr) o
         cases hsb:symB s many with
         |false=>
          rw[hsb]at CY
          have FIN:Hid (TT=false):=by
           show _=_
           rw[←zq HTT,zq hO,zq HD2]
           simp only[List.all_cons]
           rw[zq STEP,hsb];rfl
          clear hsb STEP
          go_wp2_with fail
          refine(zq CY _ (BN _)).mono ?_
          rintro e w4 ⟨rfl,b4⟩
          clear CY
          go_wp2_with fail
          go_ret
          exact⟨by rw[zq FIN];simp,(zq hBo).trans ((zq hB2).mono hso|>.trans ((zY (BN _) b4).mono (Nat.le_trans hso (zq hB2).size)))⟩
         |true=>
          rw[hsb]at CY
          have NXT:Hid (l.all (fun s=>symB s many)=(l.drop (k+1)).all fun s=>symB s many):=by show _=_;rw[zq STEP,hsb];rfl
          clear hsb STEP
          go_wp2_with fail
          refine(zq CY _ (BN _)).mono ?_
          rintro e w4 ⟨rfl,b4⟩
          clear CY
          have B4:=zk (zY (zq hB2) (zY (BN _) b4))
          have s4:=(zq B4).size
          clear b4
          go_wp2_with fail
          go_roundw
          case rel=>exact⟨k+1,by omega,by simp,NXT,B4,s4⟩
          case measure=>simp[intOf];omega
        ·obtain rfl:k=l.length:=by omega
         have NXT:Hid (TT=((A.drop (j+1)).all fun l=>l.all fun s=>symB s many)):=by
          show _=_
          rw[←zq HTT,zq hO,zq HD2]
          simp only[List.all_cons]
          rw[zq hI,List.drop_eq_nil_of_le (Nat.le_refl _)];rfl
         have B5:=zk ((zq hBo).trans ((zq hB2).mono hso))
         have s5:=(zq B5).size
         go_wp2_with fail
         go_roundw
         case rel=>exact⟨j+1,by omega,by simp,by show _=_;rw[zq HTT];exact zq NXT,B5,s5⟩
         case measure=>simp[intOf];omega
      ·obtain rfl:j=nA:=by omega
       have FIN:Hid (TT=true):=by
        show _=_
        rw[←zq HTT,zq hO,List.drop_eq_nil_of_le (by rw[zq HNA];exact Nat.le_refl _)];rfl
       go_wp2_with fail
       go_ret
       exact⟨by rw[zq FIN];simp,zq hBo⟩
   ·have b1:decide (mk<0)=false:=decide_eq_false (by omega)
    have b2:decide (63<mk)=true:=decide_eq_true (by omega)
    rw[decide_eq_true h0,decide_eq_false h63]
    clear CM h0 h63
    go_enter Tryz.func49,Tryz.ntmps49
    go_wp2_with fail
    refine(zq CF _ (B1 _)).mono ?_
    rintro e w1 ⟨rfl,hw1⟩
    subst hw1
    clear CF
    go_wp2_with fail
    go_ret
    exact⟨by simp,B1 _⟩
  ·have b1:decide (mk<0)=true:=decide_eq_true (by omega)
   rw[decide_eq_false h0]
   clear CM h0
   go_enter Tryz.func49,Tryz.ntmps49
   go_wp2_with fail
   refine(zq CF _ (B1 _)).mono ?_
   rintro e w1 ⟨rfl,hw1⟩
   subst hw1
   clear CF
   go_wp2_with fail
   go_ret
   exact⟨by simp,B1 _⟩
theorem fMayM_l (v:Value) (g:GR) (w:World) (h:GrM w v g):
  Calls Tryz.prog 23 #[v] w fun e w'=>e= .returned (.bool (gramB g.1))∧Below w.heap.size w w':=by
 have B1:∀o,Below w.heap.size w (w.alloc o):=fun o=>Below.new1 o
 obtain⟨a,c,aK,cK,rfl,hp,-⟩:=h
 obtain⟨P,K⟩:=g
 simp only at hp⊢
 obtain⟨hc1,hc2⟩:P.length≤c∧c≤maxLen:=by obtain⟨a1,c1,e1,h1,h2,-⟩:=hp;injection e1 with _ _ e1;subst e1;exact⟨h1,h2⟩
 unfold maxLen at hc2
 have HP:=zk hp
 clear hp
 unfold gramB
 generalize hn:P.length=n at*
 have HN:=zk hn
 clear hn
 generalize K.length=nK at*
 generalize hTT:(P.all fun p=>prodB p n)=TT at*
 have HTT:=zk hTT
 clear hTT
 by_cases h1:1≤n
 ·by_cases h60:n≤60
  ·have b1:decide ((n:Int)<1)=false:=decide_eq_false (by omega)
   have b2:decide (60<(n:Int))=false:=decide_eq_false (by omega)
   rw[decide_eq_true h1,decide_eq_true h60]
   clear h1 h60
   go_enter Tryz.func23,Tryz.ntmps23
   go_wp2_with fail
   go_loopw [18] (fun i wr=>∃(j:Nat),j≤n∧i= .int .i64 (j:Int)∧Hid ((P.all fun p=>prodB p n)=(P.drop j).all fun p=>prodB p n)∧Hid (Below w.heap.size w wr)∧w.heap.size≤wr.heap.size) (fun i _=>n-(intOf i).toNat)
   case atStart=>exact⟨0,Nat.zero_le _,rfl,rfl,B1 _,by simp⟩
   case round=>
    obtain⟨j,hj,rfl,hO,hB,hs⟩:=hrel
    by_cases hlt:j<n
    ·obtain⟨g,off,x0,n0,k0,x2,n2,k2,p,rfl,hg,q0,q1,q2,ha,hn,hd,hm⟩:=prodM_at (by have:=(zq HP).later (zq hB);rw[←zq HN]at this;exact this) j (by rw[zq HN];exact hlt)
     have CP:=zk (fun W (bW:Below wr.heap.size wr W)=>mayProdM_l p _ _ (n:Int) W (ha.later bW) (hn.later bW))
     have STEP:Hid ((P.all fun p=>prodB p n)=(prodB p n&&(P.drop (j+1)).all fun p=>prodB p n)):=by show _=_;rw[zq hO,hd];rfl
     have j3:j*3=3*j:=by omega
     clear ha hn hd hm hO
     generalize p.2.1=mk at*
     have BN:=fun o=>Below.new1 (w:=wr) o
     cases hpb:prodB p n with
     |false=>
      rw[hpb]at CP
      have FIN:Hid (TT=false):=by show _=_;rw[←zq HTT,zq STEP,hpb];rfl
      clear hpb STEP
      go_wp2_with fail
      refine(zq CP _ (BN _)).mono ?_
      rintro e w4 ⟨rfl,b4⟩
      clear CP
      go_wp2_with fail
      go_ret
      exact⟨by rw[zq FIN];simp,zY (zq hB) (zY (BN _) b4)⟩
     |true=>
      rw[hpb]at CP
      have NXT:Hid ((P.all fun p=>prodB p n)=(P.drop (j+1)).all fun p=>prodB p n):=by show _=_;rw[zq STEP,hpb];rfl
      clear hpb STEP
      go_wp2_with fail
      refine(zq CP _ (BN _)).mono ?_
      rintro e w4 ⟨rfl,b4⟩
      clear CP
      have B4:=zk (zY (zq hB) (zY (BN _) b4))
      have s4:=(zq B4).size
      clear b4
      go_wp2_with fail
      go_roundw
      case rel=>exact⟨j+1,by omega,by simp,NXT,B4,s4⟩
      case measure=>simp[intOf];omega
    ·obtain rfl:j=n:=by omega
     have FIN:Hid (TT=true):=by
      show _=_
      rw[←zq HTT,zq hO,List.drop_eq_nil_of_le (by rw[zq HN];exact Nat.le_refl _)];rfl
     go_wp2_with fail
     go_ret
     exact⟨by rw[zq FIN];simp,zq hB⟩
  ·have b1:decide ((n:Int)<1)=false:=decide_eq_false (by omega)
   have b2:decide (60<(n:Int))=true:=decide_eq_true (by omega)
   rw[decide_eq_true h1,decide_eq_false h60]
   clear h1 h60
   go_enter Tryz.func23,Tryz.ntmps23
   go_wp2_with fail
   go_ret
   exact⟨by simp,B1 _⟩
 ·have b1:decide ((n:Int)<1)=true:=decide_eq_true (by omega)
  rw[decide_eq_false h1]
  clear h1
  go_enter Tryz.func23,Tryz.ntmps23
  go_wp2_with fail
  go_ret
  exact⟨by simp,B1 _⟩
end Go.Proofs.YtcblkmlcbedomaaGreatDoor.Nl
