/- Parts of the proof that stand ahead of it (R 10). -/
import Derived.Test.YtcblkmlcbedomaaGreatDoorRM9
import Derived.Test.YtcblkmlcbedomaaGreatDoorTM32
import Derived.Test.YtcblkmlcbedomaaGreatDoorRM8
set_option linter.unusedVariables false
set_option linter.unusedSimpArgs false
set_option maxRecDepth 20000
set_option maxHeartbeats 16000000
namespace Go.Proofs.YtcblkmlcbedomaaGreatDoor.Nl
open Go.RowKit Go.Shelf Go.Proofs.YtcblkmlcbedomaaGreatDoor.T Go.Proofs.YtcblkmlcbedomaaGreatDoor.R Go.Proofs.YtcblkmlcbedomaaGreatDoor.F
theorem Xv {P:List PRD} (h:gramB P=true):1≤P.length∧P.length≤60∧(∀p∈P,p.1.length≤8)∧(∀p∈P,∀a∈p.1,a.length≤40)∧okN P∧(∀p∈P,∀a∈p.1,∀s∈a,yQ s.2.2):=by
 unfold gramB at h
 simp only[Bool.and_eq_true,decide_eq_true_eq,List.all_eq_true]at h
 obtain⟨h1,h2,h3⟩:=h
 have key:∀p∈P,p.1.length≤8∧(∀a∈p.1,a.length≤40)∧∀a∈p.1,∀s∈a,symB s P.length=true:=by
  intro p hp
  have:=h3 p hp
  unfold prodB fitsB at this
  simp only[Bool.and_eq_true,decide_eq_true_eq,List.all_eq_true,Bool.not_eq_true',List.any_eq_false,longB]at this
  obtain⟨⟨-,h8,h40⟩,-,-,-,hs⟩:=this
  exact⟨h8,fun a ha=>by have:=h40 a ha;simp at this;omega,fun a ha s hs'=>hs a ha s hs'⟩
 have sy:∀p∈P,∀a∈p.1,∀s∈a,(s.1=2→0≤s.2.2∧s.2.2<P.length)∧yQ s.2.2:=by
  intro p hp a ha s hs
  have:=(key p hp).2.2 a ha s hs
  unfold symB at this
  split at this
  ·rename_i h0
   simp only[Bool.and_eq_true,decide_eq_true_eq]at this
   exact⟨fun c=>by omega,by rw[this.1];unfold yQ;omega⟩
  ·split at this
   ·rename_i h0
    simp only[Bool.and_eq_true,decide_eq_true_eq]at this
    exact⟨fun c=>by omega,by rw[this.1];unfold yQ;omega⟩
   ·split at this
    ·simp only[Bool.and_eq_true,decide_eq_true_eq]at this
     exact⟨fun _=>⟨this.1,this.2.1⟩,by have:=this.1;have:=this;unfold yQ;omega⟩
    ·cases this
 exact⟨h1,h2,fun p hp=>(key p hp).1,fun p hp=>(key p hp).2.1,fun p hp a ha s hs=>(sy p hp a ha s hs).1,fun p hp a ha s hs=>(sy p hp a ha s hs).2⟩
theorem SyM.later {w X:World} {v:Value} {l:List SY} (h:SyM w v l) (k:Below w.heap.size w X):SyM X v l:=by
 obtain⟨a,c,e,h1,h2,h3⟩:=h
 refine⟨a,c,e,h1,h2,fun j s hj=> ?_⟩
 obtain⟨g,off,x,kk,ha,hg,q0,q1,q2,hr⟩:=h3 j s hj
 exact⟨g,off,x,kk,ha,Nat.lt_of_lt_of_le hg k.size,(k.cell (p:=⟨g,off+3*j,none⟩) hg).trans q0,(k.cell (p:=⟨g,off+3*j+1,none⟩) hg).trans q1,(k.cell (p:=⟨g,off+3*j+2,none⟩) hg).trans q2,hr.later k (Nat.le_refl _)⟩
theorem AltM.later {w X:World} {v:Value} {A:List (List SY)} (h:AltM w v A) (k:Below w.heap.size w X):AltM X v A:=by
 obtain⟨a,c,e,h1,h2,h3⟩:=h
 refine⟨a,c,e,h1,h2,fun j l hj=> ?_⟩
 obtain⟨g,off,u,ha,hg,q0,hs⟩:=h3 j l hj
 exact⟨g,off,u,ha,Nat.lt_of_lt_of_le hg k.size,(k.cell (p:=⟨g,off+j,none⟩) hg).trans q0,hs.later k⟩
theorem NotM.later {w X:World} {v:Value} {N:List (Int×Int)} (h:NotM w v N) (k:Below w.heap.size w X):NotM X v N:=by
 obtain⟨a,c,e,hr⟩:=h
 exact⟨a,c,e,hr.later k (Nat.le_refl _)⟩
theorem PrM.later {w X:World} {v:Value} {P:List PRD} (h:PrM w v P) (k:Below w.heap.size w X):PrM X v P:=by
 obtain⟨a,c,e,h1,h2,h3⟩:=h
 refine⟨a,c,e,h1,h2,fun j p hj=> ?_⟩
 obtain⟨g,off,u,u2,ha,hg,q0,q1,q2,hA,hN⟩:=h3 j p hj
 exact⟨g,off,u,u2,ha,Nat.lt_of_lt_of_le hg k.size,(k.cell (p:=⟨g,off+3*j,none⟩) hg).trans q0,(k.cell (p:=⟨g,off+3*j+1,none⟩) hg).trans q1,(k.cell (p:=⟨g,off+3*j+2,none⟩) hg).trans q2,hA.later k,hN.later k⟩
theorem GrM.later {w X:World} {v:Value} {g:GR} (h:GrM w v g) (k:Below w.heap.size w X):GrM X v g:=by
 obtain⟨a,c,aK,cK,e,hp,hk⟩:=h
 exact⟨a,c,aK,cK,e,hp.later k,hk⟩
theorem SyM.form {w:World} {x:Option Addr} {n c:Nat} {l:List SY} (h:SyM w (.slice x n c) l):n=l.length∧l.length≤c∧c≤maxLen:=by
 obtain⟨a,c',e,h1,h2,-⟩:=h
 injection e with e1 e2 e3
 subst e3
 exact⟨e2,h1,h2⟩
theorem AltM.form {w:World} {v:Value} {A:List (List SY)} (h:AltM w v A):∃a c,v= .slice a A.length c∧A.length≤c∧c≤maxLen:=by
 obtain⟨a,c,e,h1,h2,-⟩:=h
 exact⟨a,c,e,h1,h2⟩
theorem drop_of {α:Type} {l:List α} {j:Nat} (h:j<l.length):l.drop j=l[j]::l.drop (j+1)∧l[j]∈l:=⟨List.drop_eq_getElem_cons h,List.getElem_mem h⟩
theorem AltM.at {w:World} {a:Option Addr} {c:Nat} {A:List (List SY)} (h:AltM w (.slice a A.length c) A) (k:Nat) (hk:k<A.length):∃g off x cc l,a=some ⟨g,off,none⟩∧g<w.heap.size∧w.cell? ⟨g,off+k,none⟩=some (.slice x l.length cc)∧A.drop k=l::A.drop (k+1)∧SyM w (.slice x l.length cc) l:=by
 obtain⟨a',c',e,-,-,h3⟩:=h
 injection e with e1 e2 e3
 subst e1
 obtain⟨g,off,u,ha,hg,q0,hs⟩:=h3 k A[k] (by simp[hk])
 obtain⟨x,cc,rfl,-⟩:=id hs
 exact⟨g,off,x,cc,A[k],ha,hg,q0,(drop_of hk).1,hs⟩
theorem symM_at {w:World} {x:Option Addr} {cc n:Nat} {l:List SY} (h:SyM w (.slice x n cc) l) (j:Nat) (hj:j<l.length):∃g off s a c,x=some ⟨g,off,none⟩∧g<w.heap.size∧w.cell? ⟨g,off+3*j,none⟩=some (.int .i64 s.1)∧w.cell? ⟨g,off+3*j+1,none⟩=some (.slice a s.2.1.length c)∧w.cell? ⟨g,off+3*j+2,none⟩=some (.int .i64 s.2.2)∧Rs w a s.2.1.length c s.2.1∧True∧l.drop j=s::l.drop (j+1)∧s∈l:=by
 obtain⟨a',c',e,-,-,h3⟩:=h
 injection e with e1 e2 e3
 subst e1
 obtain⟨g,off,y,k,ha,hg,q0,q1,q2,hr⟩:=h3 j l[j] (by simp[hj])
 exact⟨g,off,l[j],y,k,ha,hg,q0,q1,q2,hr,trivial,(drop_of hj).1,(drop_of hj).2⟩
theorem prodM_at {w:World} {a:Option Addr} {c:Nat} {P:List PRD} (h:PrM w (.slice a P.length c) P) (j:Nat) (hj:j<P.length):∃g off x0 n0 k0 x2 n2 k2 p,a=some ⟨g,off,none⟩∧g<w.heap.size∧w.cell? ⟨g,off+3*j,none⟩=some (.slice x0 n0 k0)∧w.cell? ⟨g,off+3*j+1,none⟩=some (.int .i64 p.2.1)∧w.cell? ⟨g,off+3*j+2,none⟩=some (.slice x2 n2 k2)∧AltM w (.slice x0 n0 k0) p.1∧NotM w (.slice x2 n2 k2) p.2.2∧P.drop j=p::P.drop (j+1)∧p∈P:=by
 obtain⟨a',c',e,-,-,h3⟩:=h
 injection e with e1 e2 e3
 subst e1
 obtain⟨g,off,u,u2,ha,hg,q0,q1,q2,hA,hN⟩:=h3 j P[j] (by simp[hj])
 obtain⟨x0,k0,rfl,-⟩:=id hA
 obtain⟨x2,k2,rfl,-⟩:=id hN
 exact⟨g,off,x0,_,k0,x2,_,k2,P[j],ha,hg,q0,q1,q2,hA,hN,(drop_of hj).1,(drop_of hj).2⟩
/-! ### What came of flat, and what package null reads -/
theorem ixFuncM_l (a:Option Addr) (c:Nat) (A:List (List SY)) (w:World) (h:AltM w (.slice a A.length c) A) (hl:A.length≤1000000):
  Calls Tryz.prog 167 #[.slice a A.length c,.func (.func 123) #[] #[]] w fun e w'=>e= .returned (.int .i64 (ixL A 0))∧w'=w:=by
 have hc:A.length≤c∧c≤maxLen:=by obtain⟨a',c',e,h1,h2⟩:=h.form;injection e with e1 e2 e3;subst e3;exact⟨h1,h2⟩
 obtain⟨hc1,hc2⟩:=hc
 unfold maxLen at hc2
 have HV:=zk h
 have CT:=zk (fun x n cc W=>tooLong_l x n cc W)
 clear h
 generalize hn:A.length=n at*
 have HN:=zk hn
 clear hn
 go_enter Tryz.func167,Tryz.ntmps167
 go_wp2_with fail
 go_loopw [8] (fun i wr=>∃k:Nat,k≤n∧i= .int .i64 (k:Int)∧Hid (ixL A 0=ixL (A.drop k) k)∧wr=w) (fun i _=>n-(intOf i).toNat)
 case atStart=>exact⟨0,Nat.zero_le _,rfl,rfl,rfl⟩
 case round=>
  obtain⟨k,hk,rfl,hA,hw⟩:=hrel
  subst hw
  by_cases hlt:k<n
  ·have HV1:=zq HV
   rw[←zq HN]at HV1
   obtain⟨g,off,x,cc,l,rfl,hg,hcell,hd,-⟩:=HV1.at k (by rw[zq HN];exact hlt)
   clear HV1
   by_cases h40:40<l.length
   ·have hb:decide ((40:Int)<(l.length:Int))=true:=decide_eq_true (by omega)
    have FIN:Hid (ixL A 0=(k:Int)):=by show _=_;rw[zq hA,hd];unfold ixL;rw[if_pos h40]
    clear hd h40 hA
    go_wp2_with fail
    refine(zq CT _ _ _ _).mono ?_
    rintro e w1 ⟨rfl,hw1⟩
    subst hw1
    clear CT
    rw[hb]
    go_wp2_with fail
    go_ret
    exact⟨ret_int (zq FIN).symm,rfl⟩
   ·have hb:decide ((40:Int)<(l.length:Int))=false:=decide_eq_false (by omega)
    have NXT:Hid (ixL A 0=ixL (A.drop (k+1)) (k+1)):=by show _=_;rw[zq hA,hd];conv=>lhs;unfold ixL;rw[if_neg h40]
    clear hd h40 hA
    go_wp2_with fail
    refine(zq CT _ _ _ _).mono ?_
    rintro e w1 ⟨rfl,hw1⟩
    subst hw1
    rw[hb]
    go_wp2_with fail
    go_roundw
    case rel=>exact⟨k+1,by omega,by simp,NXT,trivial⟩
    case measure=>simp only[intOf];omega
  ·obtain rfl:k=n:=by omega
   have FIN:Hid (ixL A 0= -1):=by
    show _=_
    rw[zq hA,List.drop_eq_nil_of_le (by rw[zq HN];exact Nat.le_refl _)]
    rfl
   go_wp2_with fail
   go_ret
   exact⟨ret_int (zq FIN).symm,rfl⟩
theorem contFM_l (a:Option Addr) (c:Nat) (A:List (List SY)) (w:World) (h:AltM w (.slice a A.length c) A) (hl:A.length≤1000000):
  Calls Tryz.prog 122 #[.slice a A.length c,.func (.func 123) #[] #[]] w fun e w'=>e= .returned (.bool (A.any longB))∧w'=w:=by
 have C:=zk (ixFuncM_l a c A w h hl)
 rw[←ixL_any A 0]
 clear h
 generalize ixL A 0=r at*
 generalize A.length=n at*
 go_enter Tryz.func122,Tryz.ntmps122
 go_wp2_with fail
 refine(zq C).mono ?_
 rintro e w1 ⟨rfl,hw1⟩
 subst hw1
 clear C
 go_wp2_with fail
 go_ret
 exact⟨rfl,rfl⟩
theorem ffitsM_l (v:Value) (A:List (List SY)) (w:World) (h:AltM w v A):
  Calls Tryz.prog 78 #[v] w fun e w'=>e= .returned (.bool (fitsB A))∧w'=w:=by
 obtain⟨a,c,rfl,-,-⟩:=h.form
 have C:=zk (fun h8:A.length≤8=>contFM_l a c A w h (by omega))
 unfold fitsB
 clear h
 generalize A.any longB=r at*
 generalize A.length=n at*
 by_cases h1:1≤n
 ·by_cases h8:n≤8
  ·have b1:decide ((1:Int)≤(n:Int))=true:=decide_eq_true (by omega)
   have b8:decide ((n:Int)≤8)=true:=decide_eq_true (by omega)
   have C:=zk (zq C h8)
   rw[decide_eq_true h1,decide_eq_true h8]
   go_enter Tryz.func78,Tryz.ntmps78
   go_wp2_with fail
   refine(zq C).mono ?_
   rintro e w1 ⟨rfl,hw1⟩
   subst hw1
   clear C
   go_wp2_with fail
   go_ret
   exact⟨by simp,rfl⟩
  ·have b1:decide ((1:Int)≤(n:Int))=true:=decide_eq_true (by omega)
   have b8:decide ((n:Int)≤8)=false:=decide_eq_false (by omega)
   rw[decide_eq_true h1,decide_eq_false h8]
   clear C
   go_enter Tryz.func78,Tryz.ntmps78
   go_wp2_with fail
   go_ret
   exact⟨rfl,rfl⟩
 ·have b1:decide ((1:Int)≤(n:Int))=false:=decide_eq_false (by omega)
  rw[decide_eq_false h1]
  clear C
  go_enter Tryz.func78,Tryz.ntmps78
  go_wp2_with fail
  go_ret
  exact⟨rfl,rfl⟩
theorem mayProdM_l (p:PRD) (v0 v2:Value) (many:Int) (w:World) (ha:AltM w v0 p.1) (hn:NotM w v2 p.2.2):
  Calls Tryz.prog 49 #[.agg #[v0,.int .i64 p.2.1,v2],.int .i64 many] w fun e w'=>e= .returned (.bool (prodB p many))∧Below w.heap.size w w':=by
 have B1:∀o,Below w.heap.size w (w.alloc o):=fun o=>Below.new1 o
 obtain⟨A,mk,N⟩:=p
 simp only at ha hn⊢
 obtain⟨aN,cN,rfl,rN⟩:=hn
 have CF:=zk (fun W (bW:Below w.heap.size w W)=>ffitsM_l v0 A W (ha.later bW))
 have CM:=zk (fun W (bW:Below w.heap.size w W)=>rgMay_any aN N.length cN N W (rN.later bW (Nat.le_refl _)))
 obtain⟨a0,c0,rfl,hc0,hc1⟩:=ha.form
 unfold maxLen at hc1
 have HA:=zk ha
 clear ha rN
 unfold prodB
 simp only
 generalize hTT:(A.all fun l=>l.all fun s=>symB s many)=TT at*
 have HTT:=zk hTT
 clear hTT
 generalize fitsB A=fb at*
 generalize G.zo N=mb at*
 generalize N.length=nN at*
 generalize hnA:A.length=nA at*
 have HNA:=zk hnA
 clear hnA
 cases fb with
 |false=>
  clear CM
  go_enter Tryz.func49,Tryz.ntmps49
  go_wp2_with fail
  refine(zq CF _ (B1 _)).mono ?_
  rintro e w1 ⟨rfl,hw1⟩
  subst hw1
  clear CF
  go_wp2_with fail
  go_ret
  exact⟨by simp,B1 _⟩
 |true=>
  by_cases h0:0≤mk
  ·by_cases h63:mk≤63
   ·have b1:decide (mk<0)=false:=decide_eq_false (by omega)
    have b2:decide (63<mk)=false:=decide_eq_false (by omega)
    rw[decide_eq_true h0,decide_eq_true h63]
    clear h0 h63
    cases mb with
    |false=>
     go_enter Tryz.func49,Tryz.ntmps49
     go_wp2_with fail
     refine(zq CF _ (B1 _)).mono ?_
     rintro e w1 ⟨rfl,hw1⟩
     subst hw1
     clear CF
     go_wp2_with fail
     refine(zq CM _ (B1 _)).mono ?_
     rintro e w1 ⟨rfl,b1⟩
     clear CM
     go_wp2_with fail
     go_ret
     exact⟨by simp,zY (B1 _) b1⟩
    |true=>
     go_enter Tryz.func49,Tryz.ntmps49
     go_wp2_with fail
     refine(zq CF _ (B1 _)).mono ?_
     rintro e w1 ⟨rfl,hw1⟩
     subst hw1
     clear CF
     go_wp2_with fail
     refine(zq CM _ (B1 _)).mono ?_
     rintro e w1 ⟨rfl,b1⟩
     clear CM
     have BB:=zk (zY (B1 _) b1)
     have s1:=(zq BB).size
     obtain⟨⟨x0,x1,x2⟩,-⟩:=jJ (ze b1)
     clear b1
     go_wp2_with fail
     go_loopw [32] (fun i wr=>∃(j:Nat),j≤nA∧i= .int .i64 (j:Int)∧Hid ((A.all fun l=>l.all fun s=>symB s many)=((A.drop j).all fun l=>l.all fun s=>symB s many))∧Hid (Below w.heap.size w wr)∧w.heap.size≤wr.heap.size) (fun i _=>nA-(intOf i).toNat)
     case atStart=>exact⟨0,Nat.zero_le _,rfl,rfl,BB,s1⟩
     case round=>
      obtain⟨j,hj,rfl,hO,hBo,hso⟩:=hrel
      by_cases hlt2:j<nA
      ·have HA1:=(zq HA).later (zq hBo)
       rw[←zq HNA]at HA1
       obtain⟨g,off,x,cc,l,rfl,hg,q,hd,hsv⟩:=HA1.at j (by rw[zq HNA];exact hlt2)
       have HD2:=zk hd
       have HSV:=zk hsv
       obtain⟨-,hcc1,hcc2⟩:=hsv.form
       unfold maxLen at hcc2
       clear HA1 hd hsv
       generalize hWr:wr=W4 at*
       clear hWr
       go_wp2_with fail
       go_loopw [38] (fun i wr=>∃(k:Nat),k≤l.length∧i= .int .i64 (k:Int)∧Hid (l.all (fun s=>symB s many)=(l.drop k).all fun s=>symB s many)∧Hid (Below W4.heap.size W4 wr)∧W4.heap.size≤wr.heap.size) (fun i _=>l.length-(intOf i).toNat)
       case atStart=>exact⟨0,Nat.zero_le _,rfl,rfl,Below.refl _ _,Nat.le_refl _⟩
       case round=>
        obtain⟨k,hk,rfl,hI,hB2,hs2⟩:=hrel
        by_cases hlt3:k<l.length
        ·obtain⟨gs,os,s,a3,c3,rfl,hgs,q0,q1,q2,rs3,ty3,hd3,hm3⟩:=symM_at ((zq HSV).later (zq hB2)) k hlt3
         have HD3:=zk hd3
         have CY:=zk (fun W (bW:Below wr.heap.size wr W)=>maySym_l s a3 c3 many W (rs3.later bW (Nat.le_refl _)))
         have k3:k*3=3*k:=by omega
         have STEP:Hid (l.all (fun s=>symB s many)=(symB s many&&(l.drop (k+1)).all fun s=>symB s many)):=by show _=_;rw[zq hI,zq HD3];rfl
         clear rs3 ty3 hd3 hm3 hI
         generalize s.1=s1 at*
         generalize s.2.2=s2 at*
         generalize s.2.1.length=s3 at*
         have BN:=fun o=>Below.new1 (w:=wr) o
         cases hsb:symB s many with
         |false=>
          rw[hsb]at CY
          have FIN:Hid (TT=false):=by
           show _=_
           rw[←zq HTT,zq hO,zq HD2]
           simp only[List.all_cons]
           rw[zq STEP,hsb];rfl
          clear hsb STEP
          go_wp2_with fail
          refine(zq CY _ (BN _)).mono ?_
          rintro e w4 ⟨rfl,b4⟩
          clear CY
          go_wp2_with fail
          go_ret
          exact⟨by rw[zq FIN];simp,(zq hBo).trans ((zq hB2).mono hso|>.trans ((zY (BN _) b4).mono (Nat.le_trans hso (zq hB2).size)))⟩
         |true=>
          rw[hsb]at CY
          have NXT:Hid (l.all (fun s=>symB s many)=(l.drop (k+1)).all fun s=>symB s many):=by show _=_;rw[zq STEP,hsb];rfl
          clear hsb STEP
          go_wp2_with fail
          refine(zq CY _ (BN _)).mono ?_
          rintro e w4 ⟨rfl,b4⟩
          clear CY
          have B4:=zk (zY (zq hB2) (zY (BN _) b4))
          have s4:=(zq B4).size
          clear b4
          go_wp2_with fail
          go_roundw
          case rel=>exact⟨k+1,by omega,by simp,NXT,B4,s4⟩
          case measure=>simp[intOf];omega
        ·obtain rfl:k=l.length:=by omega
         have NXT:Hid (TT=((A.drop (j+1)).all fun l=>l.all fun s=>symB s many)):=by
          show _=_
          rw[←zq HTT,zq hO,zq HD2]
          simp only[List.all_cons]
          rw[zq hI,List.drop_eq_nil_of_le (Nat.le_refl _)];rfl
         have B5:=zk ((zq hBo).trans ((zq hB2).mono hso))
         have s5:=(zq B5).size
         go_wp2_with fail
         go_roundw
         case rel=>exact⟨j+1,by omega,by simp,by show _=_;rw[zq HTT];exact zq NXT,B5,s5⟩
         case measure=>simp[intOf];omega
      ·obtain rfl:j=nA:=by omega
       have FIN:Hid (TT=true):=by
        show _=_
        rw[←zq HTT,zq hO,List.drop_eq_nil_of_le (by rw[zq HNA];exact Nat.le_refl _)];rfl
       go_wp2_with fail
       go_ret
       exact⟨by rw[zq FIN];simp,zq hBo⟩
   ·have b1:decide (mk<0)=false:=decide_eq_false (by omega)
    have b2:decide (63<mk)=true:=decide_eq_true (by omega)
    rw[decide_eq_true h0,decide_eq_false h63]
    clear CM h0 h63
    go_enter Tryz.func49,Tryz.ntmps49
    go_wp2_with fail
    refine(zq CF _ (B1 _)).mono ?_
    rintro e w1 ⟨rfl,hw1⟩
    subst hw1
    clear CF
    go_wp2_with fail
    go_ret
    exact⟨by simp,B1 _⟩
  ·have b1:decide (mk<0)=true:=decide_eq_true (by omega)
   rw[decide_eq_false h0]
   clear CM h0
   go_enter Tryz.func49,Tryz.ntmps49
   go_wp2_with fail
   refine(zq CF _ (B1 _)).mono ?_
   rintro e w1 ⟨rfl,hw1⟩
   subst hw1
   clear CF
   go_wp2_with fail
   go_ret
   exact⟨by simp,B1 _⟩
theorem fMayM_l (v:Value) (g:GR) (w:World) (h:GrM w v g):
  Calls Tryz.prog 23 #[v] w fun e w'=>e= .returned (.bool (gramB g.1))∧Below w.heap.size w w':=by
 have B1:∀o,Below w.heap.size w (w.alloc o):=fun o=>Below.new1 o
 obtain⟨a,c,aK,cK,rfl,hp,-⟩:=h
 obtain⟨P,K⟩:=g
 simp only at hp⊢
 obtain⟨hc1,hc2⟩:P.length≤c∧c≤maxLen:=by obtain⟨a1,c1,e1,h1,h2,-⟩:=hp;injection e1 with _ _ e1;subst e1;exact⟨h1,h2⟩
 unfold maxLen at hc2
 have HP:=zk hp
 clear hp
 unfold gramB
 generalize hn:P.length=n at*
 have HN:=zk hn
 clear hn
 generalize K.length=nK at*
 generalize hTT:(P.all fun p=>prodB p n)=TT at*
 have HTT:=zk hTT
 clear hTT
 by_cases h1:1≤n
 ·by_cases h60:n≤60
  ·have b1:decide ((n:Int)<1)=false:=decide_eq_false (by omega)
   have b2:decide (60<(n:Int))=false:=decide_eq_false (by omega)
   rw[decide_eq_true h1,decide_eq_true h60]
   clear h1 h60
   go_enter Tryz.func23,Tryz.ntmps23
   go_wp2_with fail
   go_loopw [18] (fun i wr=>∃(j:Nat),j≤n∧i= .int .i64 (j:Int)∧Hid ((P.all fun p=>prodB p n)=(P.drop j).all fun p=>prodB p n)∧Hid (Below w.heap.size w wr)∧w.heap.size≤wr.heap.size) (fun i _=>n-(intOf i).toNat)
   case atStart=>exact⟨0,Nat.zero_le _,rfl,rfl,B1 _,by simp⟩
   case round=>
    obtain⟨j,hj,rfl,hO,hB,hs⟩:=hrel
    by_cases hlt:j<n
    ·obtain⟨g,off,x0,n0,k0,x2,n2,k2,p,rfl,hg,q0,q1,q2,ha,hn,hd,hm⟩:=prodM_at (by have:=(zq HP).later (zq hB);rw[←zq HN]at this;exact this) j (by rw[zq HN];exact hlt)
     have CP:=zk (fun W (bW:Below wr.heap.size wr W)=>mayProdM_l p _ _ (n:Int) W (ha.later bW) (hn.later bW))
     have STEP:Hid ((P.all fun p=>prodB p n)=(prodB p n&&(P.drop (j+1)).all fun p=>prodB p n)):=by show _=_;rw[zq hO,hd];rfl
     have j3:j*3=3*j:=by omega
     clear ha hn hd hm hO
     generalize p.2.1=mk at*
     have BN:=fun o=>Below.new1 (w:=wr) o
     cases hpb:prodB p n with
     |false=>
      rw[hpb]at CP
      have FIN:Hid (TT=false):=by show _=_;rw[←zq HTT,zq STEP,hpb];rfl
      clear hpb STEP
      go_wp2_with fail
      refine(zq CP _ (BN _)).mono ?_
      rintro e w4 ⟨rfl,b4⟩
      clear CP
      go_wp2_with fail
      go_ret
      exact⟨by rw[zq FIN];simp,zY (zq hB) (zY (BN _) b4)⟩
     |true=>
      rw[hpb]at CP
      have NXT:Hid ((P.all fun p=>prodB p n)=(P.drop (j+1)).all fun p=>prodB p n):=by show _=_;rw[zq STEP,hpb];rfl
      clear hpb STEP
      go_wp2_with fail
      refine(zq CP _ (BN _)).mono ?_
      rintro e w4 ⟨rfl,b4⟩
      clear CP
      have B4:=zk (zY (zq hB) (zY (BN _) b4))
      have s4:=(zq B4).size
      clear b4
      go_wp2_with fail
      go_roundw
      case rel=>exact⟨j+1,by omega,by simp,NXT,B4,s4⟩
      case measure=>simp[intOf];omega
    ·obtain rfl:j=n:=by omega
     have FIN:Hid (TT=true):=by
      show _=_
      rw[←zq HTT,zq hO,List.drop_eq_nil_of_le (by rw[zq HN];exact Nat.le_refl _)];rfl
     go_wp2_with fail
     go_ret
     exact⟨by rw[zq FIN];simp,zq hB⟩
  ·have b1:decide ((n:Int)<1)=false:=decide_eq_false (by omega)
   have b2:decide (60<(n:Int))=true:=decide_eq_true (by omega)
   rw[decide_eq_true h1,decide_eq_false h60]
   clear h1 h60
   go_enter Tryz.func23,Tryz.ntmps23
   go_wp2_with fail
   go_ret
   exact⟨by simp,B1 _⟩
 ·have b1:decide ((n:Int)<1)=true:=decide_eq_true (by omega)
  rw[decide_eq_false h1]
  clear h1
  go_enter Tryz.func23,Tryz.ntmps23
  go_wp2_with fail
  go_ret
  exact⟨by simp,B1 _⟩
end Go.Proofs.YtcblkmlcbedomaaGreatDoor.Nl
namespace Go.Proofs.YtcblkmlcbedomaaGreatDoor.Rc
open Go.RowKit Go.Maps Go.Proofs.YtcblkmlcbedomaaGreatDoor.F Go.Proofs.YtcblkmlcbedomaaGreatDoor.Nl Go.Proofs.YtcblkmlcbedomaaGreatDoor.K
theorem Xa (s:SY) (l:List SY):symsA (s::l)=if s.1=2 then s.2.2::symsA l else symsA l:=rfl
theorem symsA_app:∀(a b:List SY),symsA (a++b)=symsA a++symsA b:=by
 intro a
 induction a with
 |nil=>intro b;rfl
 |cons s a ih=>
  intro b
  rw[List.cons_append,Xa,Xa,ih]
  split<;>rfl
theorem symsA_len:∀(a:List SY),(symsA a).length≤a.length:=by
 intro a
 induction a with
 |nil=>exact Nat.le_refl _
 |cons s a ih=>rw[Xa];split<;>simp<;>omega
def IR (w:World) (base:Nat) (v:Value) (l:List Int):Prop:=w.ownsRow base 3 1 v l.length (l.map (Value.int .i64))
theorem IR.nil (w:World) (base:Nat):IR w base (.slice none 0 0) []:=World.ownsRow_nil w base _ _
theorem symsA_yes {l:List SY} {j:Nat} {s:SY} (h:l[j]? =some s) (h2:s.1=2):symsA (l.take (j+1))=symsA (l.take j)++[s.2.2]:=by
 obtain⟨hj,rfl⟩:=List.getElem?_eq_some_iff.1 h
 rw[List.take_succ_eq_append_getElem hj,symsA_app]
 congr 1
 unfold symsA
 rw[if_pos h2];rfl
theorem symsA_no {l:List SY} {j:Nat} {s:SY} (h:l[j]? =some s) (h2:s.1≠2):symsA (l.take (j+1))=symsA (l.take j):=by
 obtain⟨hj,rfl⟩:=List.getElem?_eq_some_iff.1 h
 rw[List.take_succ_eq_append_getElem hj,symsA_app]
 have:symsA [l[j]]=[]:=by unfold symsA;rw[if_neg h2];rfl
 rw[this,List.append_nil]
theorem flat_step {A:List (List SY)} {k:Nat} {l:List SY} (h:A[k]? =some l):(A.take (k+1)).flatMap symsA=(A.take k).flatMap symsA++symsA l:=by
 obtain⟨hk,rfl⟩:=List.getElem?_eq_some_iff.1 h
 rw[List.take_succ_eq_append_getElem hk,List.flatMap_append]
 simp
theorem symbols_l (aA aN:Option Addr) (cA nN cN:Nat) (mk:Int) (A:List (List SY)) (w:World) (h:AltM w (.slice aA A.length cA) A) (h8:A.length≤8) (h40:∀a∈A,a.length≤40):
  Calls Tryz.prog 88 #[.agg #[.slice aA A.length cA,.int .i64 mk,.slice aN nN cN]] w fun e w'=>∃v,e= .returned v∧IR w' w.heap.size v (A.flatMap symsA)∧Below w.heap.size w w':=by
 obtain⟨x0,x1,e0,hc1,hc2,-⟩:=id h
 injection e0 with e1 e2 e3
 subst e1;subst e3
 unfold maxLen at hc2
 have HA:=zk h
 have H40:=zk h40
 clear h h40 e2
 generalize hn:A.length=n at*
 have HN:=zk hn
 clear hn
 go_enter Tryz.func88,Tryz.ntmps88
 go_wp2_with fail
 have B0:=zk (Below.new1 (w:=w) (.cells #[.slice aA n cA,.int .i64 mk,.slice aN nN cN] 41))
 have s0:(w.alloc (.cells #[.slice aA n cA,.int .i64 mk,.slice aN nN cN] 41)).heap.size=w.heap.size+1:=by simp
 generalize w.alloc (.cells #[.slice aA n cA,.int .i64 mk,.slice aN nN cN] 41)=W0 at*
 go_loopw [3,11] (fun o i wr=>∃(k:Nat) (out:List Int),k≤n∧out.length≤40*k∧i= .int .i64 (k:Int)∧Hid (out=(A.take k).flatMap symsA)∧Hid (IR wr w.heap.size o out)∧Hid (Below w.heap.size w wr)) (fun _ i _=>n-(intOf i).toNat)
 case atStart=>exact⟨0,[],Nat.zero_le _,Nat.le_refl _,rfl,rfl,IR.nil _ _,zq B0⟩
 case round=>
  clear B0
  obtain⟨k,out,hk,hol,rfl,hO,hI,hB⟩:=hrel
  by_cases hlt:k<n
  ·obtain⟨l,hl⟩:∃l,A[k]? =some l:=⟨A[k]'(by have:=zq HN;omega),List.getElem?_eq_getElem _⟩
   have hl40:=zq H40 l (List.mem_of_getElem? hl)
   have hAw:=zq HA
   obtain⟨g,off,x,cc,rfl,hg,q0,hsy,hcc1,hcc2⟩:∃g off x cc,aA=some ⟨g,off,none⟩∧g<w.heap.size∧w.cell? ⟨g,off+k,none⟩=some (.slice x l.length cc)∧SyM w (.slice x l.length cc) l∧l.length≤cc∧cc≤maxLen:=by
    obtain⟨a',c',e,-,-,h3⟩:=hAw
    injection e with e1 e2 e3
    subst e1
    obtain⟨g,off,u,ha,hg,q0,hs⟩:=h3 k l hl
    obtain⟨x,cc,rfl,h1,h2,-⟩:=id hs
    exact⟨g,off,x,cc,ha,hg,q0,hs,h1,h2⟩
   have q0:=((zq hB).cell (p:=⟨g,off+k,none⟩) hg).trans q0
   unfold maxLen at hcc2
   have HSY:=zk hsy
   have FS:=zk (flat_step hl)
   clear hAw hsy hl
   have HO0:=hO
   go_wp2_with fail
   generalize hWr:wr=W4 at*
   clear hWr
   generalize u3=v3 at*
   go_loopw [3,17] (fun o i wr=>∃(j:Nat) (ou:List Int),j≤l.length∧ou.length≤40*k+j∧i= .int .i64 (j:Int)∧Hid (ou=out++symsA (l.take j))∧Hid (IR wr w.heap.size o ou)∧Hid (Below w.heap.size w wr)) (fun _ i _=>l.length-(intOf i).toNat)
   case atStart=>exact⟨0,out,Nat.zero_le _,by omega,rfl,by show _=_;simp[symsA],hI,hB⟩
   case round=>
    clear hO hI hB
    obtain⟨j,ou,hj,hou,rfl,hO,hI,hB⟩:=hrel
    by_cases hlj:j<l.length
    ·obtain⟨s,hs⟩:∃s,l[j]? =some s:=⟨l[j],List.getElem?_eq_getElem hlj⟩
     obtain⟨a',c',e',-,-,h3⟩:=(zq HSY).later (zq hB)
     injection e' with e1 e2 e3
     subst e1
     obtain⟨g2,o2,x2,k2,rfl,hg2,s0',s1',s2',-⟩:=h3 j s hs
     rw[Nat.mul_comm 3 j]at s0' s1' s2'
     have hww:=(zq hB).size
     by_cases h2:s.1=2
     ·have NX:Hid (ou++[s.2.2]=out++symsA (l.take (j+1))):=by
       show _=_
       rw[symsA_yes hs h2,zq hO,List.append_assoc]
      rw[h2]at s0'
      have bn:Below w.heap.size w (wr.alloc (.cells #[.int .i64 2,.slice x2 s.2.1.length k2,.int .i64 s.2.2] 43)):=(zq hB).alloc hww _
      obtain⟨v',w',hap,own',gr',-⟩:=XV (World.ownsRow.alloc (World.ownsRow.alloc (zq hI) (.cells #[.int .i64 2,.slice x2 s.2.1.length k2,.int .i64 s.2.2] 43)) (.cells #[.int .i64 s.2.2] 3)) (by simp;omega) (g:=wr.heap.size+1) (by have:=heap_alloc_new (wr.alloc (.cells #[.int .i64 2,.slice x2 s.2.1.length k2,.int .i64 s.2.2] 43)) (.cells #[.int .i64 s.2.2] 3);simpa using this) (by omega)
      have HI2:Hid (IR w' w.heap.size v' (ou++[s.2.2])):=by
       show World.ownsRow _ _ _ _ _ _ _
       rw[List.length_append,List.length_singleton,List.map_append];exact own'
      have HB2:=zk ((bn.alloc (by simp;omega) (.cells #[.int .i64 s.2.2] 3)).grown gr' (by simp;omega) (fun k hk=>((zq hI).lt k hk).1))
      have hl2:(ou++[s.2.2]).length≤40*k+(j+1):=by simp;omega
      clear h3 hs hO hI hB own' gr' bn e2 e3 h2
      generalize s.2.2=sn at*
      generalize s.2.1.length=sl at*
      go_wp2_with (at_builtin;refine app_runk rfl _ _ 26 26 rfl rfl _ _ rfl rfl hap ?_)
      exact⟨⟨j+1,ou++[sn],by omega,hl2,by simp,NX,HI2,HB2⟩,by simp[intOf];omega⟩
     ·have NX:Hid (ou=out++symsA (l.take (j+1))):=by
       show _=_
       rw[symsA_no hs h2];exact zq hO
      have b2:(s.1==2)=false:=beq_eq_false_iff_ne.2 h2
      have HI2:Hid (IR (wr.alloc (.cells #[.int .i64 s.1,.slice x2 s.2.1.length k2,.int .i64 s.2.2] 43)) w.heap.size u3 ou):=World.ownsRow.alloc (zq hI) _
      have HB2:=zk ((zq hB).alloc hww (.cells #[.int .i64 s.1,.slice x2 s.2.1.length k2,.int .i64 s.2.2] 43))
      clear h3 hs hO hI hB e2 e3 h2
      generalize s.2.2=sn at*
      generalize s.2.1.length=sl at*
      generalize s.1=sk at*
      go_wp2_with fail
      exact⟨⟨j+1,ou,by omega,by omega,by simp,NX,HI2,HB2⟩,by simp[intOf];omega⟩
    ·obtain rfl:j=l.length:=by omega
     have NX:Hid (ou=(A.take (k+1)).flatMap symsA):=by
      show _=_
      rw[zq FS,←zq HO0,zq hO,List.take_length]
     go_wp2_with fail
     exact⟨⟨k+1,ou,by omega,by omega,by simp,NX,hI,hB⟩,by simp[intOf];omega⟩
  ·obtain rfl:k=n:=by omega
   go_wp2_with fail
   go_ret
   have e:(A.take k).flatMap symsA=A.flatMap symsA:=by rw[←zq HN,List.take_length]
   exact⟨_,rfl,by rw[←e,←zq hO];exact zq hI,zq hB⟩
def BtV (w:World) (g n:Nat) (S:List Bool):Prop:=BR w g g n n S
theorem symsP_rng {P:List PRD} (hg:gramB P=true) {p:PRD} (hp:p∈P):(symsP p).length≤320∧∀y∈symsP p,∃q:Nat,y=(q:Int)∧q<P.length:=by
 obtain⟨-,-,h8,h40,ok,-⟩:=Xv hg
 refine⟨?_,fun y hy=> ?_⟩
 ·unfold symsP
  have key:∀A:List (List SY),(∀a∈A,a.length≤40)→(A.flatMap symsA).length≤40*A.length:=by
   intro A
   induction A with
   |nil=>intro _;simp
   |cons a A ih=>
    intro h
    have h1:=ih (fun x hx=>h x (List.mem_cons_of_mem _ hx))
    have h2:=symsA_len a
    have h3:=h a List.mem_cons_self
    rw[List.flatMap_cons,List.length_append,List.length_cons];omega
  have:=key p.1 (h40 p hp)
  have:=h8 p hp
  omega
 ·obtain⟨a,ha,hy⟩:=List.mem_flatMap.1 hy
  have key:∀l:List SY,(∀s∈l,s∈a)→y∈symsA l→∃s∈a,s.1=2∧y=s.2.2:=by
   intro l
   induction l with
   |nil=>intro _ h;cases h
   |cons s l ih=>
    intro hs h
    rw[Xa]at h
    split at h
    ·rename_i h2
     rcases List.mem_cons.1 h with e|h
     ·exact⟨s,hs s List.mem_cons_self,h2,e⟩
     ·exact ih (fun t ht=>hs t (List.mem_cons_of_mem _ ht)) h
    ·exact ih (fun t ht=>hs t (List.mem_cons_of_mem _ ht)) h
  obtain⟨s,hs,h2,rfl⟩:=key a (fun _ h=>h) hy
  have:=ok p hp a ha s hs h2
  exact⟨s.2.2.toNat,by omega,by omega⟩
structure FrM (w0:World) (P:List PRD) (n bl bi gs:Nat) (aP:Option Addr) (cP:Nat) (k:Nat) (W:World) (T:Int→Bool):Prop where
 bel:Below w0.heap.size w0 W
 box:W.heap[bl]? =some (.cells #[.slice aP P.length cP] 22)
 ibx:W.heap[bi]? =some (.cells #[.slice (some ⟨gs,0,none⟩) P.length P.length] 35)
 go:∃S,BtV W gs P.length S∧WiI P n S T∧2*Xw P.length (bt S)+(P.length-Xw P.length (fun i=>T (i:Int)))≤k
theorem BtV.kept {w w':World} {g n:Nat} {S:List Bool} (h:BtV w g n S) (k:w'.heap[g]? =w.heap[g]?):BtV w' g n S:=BR.kept h k
theorem FrM.keep {w0:World} {P:List PRD} {n bl bi gs:Nat} {aP:Option Addr} {cP:Nat} {k:Nat} {W W':World} {T:Int→Bool} {N0:Nat} (h:FrM w0 P n bl bi gs aP cP k W T) (h0:w0.heap.size≤N0) (h1:bl<N0) (h2:bi<N0) (h3:gs<N0) (b:Below N0 W W'):FrM w0 P n bl bi gs aP cP k W' T:=by
 obtain⟨S,a,x,c⟩:=h.go
 exact⟨h.bel.trans (b.mono h0),(b.block bl h1).trans h.box,(b.block bi h2).trans h.ibx,S,a.kept (b.block gs h3),x,c⟩
theorem cnt_dl (T:Int→Bool) {m n:Nat} (hm:m<n) (h:T (m:Int)=true):Xw n (fun i=>dlT T (m:Int) (i:Int))=Xw n (fun i=>T (i:Int))+1:=
 XW (f:=fun i=>dlT T (m:Int) (i:Int)) (g:=fun i=>T (i:Int)) (by unfold dlT;simp) h (fun i hi=>by
  unfold dlT
  simp[show¬((i:Int)=(m:Int)) from fun c=>hi (by omega)]) n hm
theorem cnt_up {n:Nat}:∀(l:List Int) (T:Int→Bool),Xw n (fun i=>T (i:Int))≤Xw n (fun i=>upT T l (i:Int))+l.length:=by
 intro l
 induction l with
 |nil=>
  intro T
  have:(fun i:Nat=>upT T [] (i:Int))=fun i:Nat=>T (i:Int):=by funext i;unfold upT;simp
  rw[this];exact Nat.le_add_right _ _
 |cons y l ih=>
  intro T
  have h1:=ih (fun x=>T x||decide (x=y))
  have e:(fun i:Nat=>upT (fun x=>T x||decide (x=y)) l (i:Int))=fun i:Nat=>upT T (y::l) (i:Int):=by
   funext i
   unfold upT
   rw[Bool.or_assoc]
   congr 1
   rw[Bool.eq_iff_iff];simp
  rw[e]at h1
  have h2:Xw n (fun i=>T (i:Int))≤Xw n (fun i=>T (i:Int)||decide ((i:Int)=y))+1:=by
   by_cases hy:∃q:Nat,y=(q:Int)∧q<n∧T (q:Int)=false
   ·obtain⟨q,rfl,hq,hT⟩:=hy
    have:=XW (f:=fun i=>T (i:Int)) (g:=fun i=>T (i:Int)||decide ((i:Int)=(q:Int))) (m:=q) hT (by simp) (fun i hi=>by simp[show¬((i:Int)=(q:Int)) from fun c=>hi (by omega)]) n hq
    omega
   ·have:Xw n (fun i=>T (i:Int)||decide ((i:Int)=y))=Xw n (fun i=>T (i:Int)):=cntF_congr n (fun i hi=>by
     cases hc:T (i:Int)with
     |true=>simp
     |false=>
      have:¬((i:Int)=y):=fun c=>hy ⟨i,c.symm,hi,hc⟩
      simp[this])
    omega
  rw[List.length_cons]
  omega
theorem withinLook_l (w0:World) (P:List PRD) (n bl bi gs N0:Nat) (aP:Option Addr) (cP k m:Nat) (W:World) (T:Int→Bool) (hP:PrM w0 (.slice aP P.length cP) P) (hg:gramB P=true) (h:FrM w0 P n bl bi gs aP cP k W T) (hm:m<P.length) (hT:T (m:Int)=true)
  (h0:w0.heap.size≤gs) (h3:gs<N0) (hN:N0≤W.heap.size) (hbl:bl<N0) (hbi:bi<N0) (hbg:bl≠gs) (hig:bi≠gs):
  Calls Tryz.prog 87 #[.int .i64 (m:Int),.pointer (some ⟨bl,0,none⟩),.pointer (some ⟨bi,0,none⟩)] W fun e w'=>∃v l k',e= .returned v∧Ns w' v l∧l.length≤100000∧(∀y∈l,∃q:Nat,y=(q:Int)∧q<P.length)∧k'<k∧FrM w0 P n bl bi gs aP cP k' w' (upT (dlT T (m:Int)) l)∧
   (∀i,N0≤i→i<W.heap.size→w'.heap[i]? =W.heap[i]?)∧Below w0.heap.size W w':=by
 have h60:=(Xv hg).2.1
 obtain⟨p,hp⟩:∃p,P[m]? =some p:=⟨P[m],List.getElem?_eq_getElem hm⟩
 have hpm:=List.mem_of_getElem? hp
 obtain⟨hs320,hsr⟩:=symsP_rng hg hpm
 obtain⟨S0,hS0,hI0,hk0⟩:=h.go
 have c0:=Xk h.box
 have c1:=Xk h.ibx
 have hPW:=hP.later h.bel
 obtain⟨a',c',e',-,-,h3'⟩:=id hPW
 injection e' with e1 e2 e3
 subst e1;subst e3
 obtain⟨g,off,u,u2,rfl,hgl,q0,q1,q2,hA,hN2⟩:=h3' m p hp
 obtain⟨x0,k0,rfl,-⟩:=id hA
 obtain⟨x2,k2,rfl,-⟩:=id hN2
 rw[Nat.mul_comm 3 m]at q0 q1 q2
 have CS:=zk (fun X (bX:Below W.heap.size W X)=>symbols_l x0 x2 k0 p.2.2.length k2 p.2.1 p.1 X (hA.later bX) ((Xv hg).2.2.1 p hpm) ((Xv hg).2.2.2.1 p hpm))
 clear hPW h3' e2 hA hN2
 have HF:=zk h
 have HS0:=zk hS0
 have HI0:=zk hI0
 have HR:=zk hsr
 have HP:=zk hp
 clear h hS0 hI0 hsr hP hpm
 generalize hNN:P.length=N at*
 have HNN:=zk hNN
 clear hNN
 go_enter Tryz.func87,Tryz.ntmps87
 go_wp2_with fail
 refine(zq CS _ (Below.refl _ _)).mono ?_
 rintro e w1 ⟨v1,rfl,own1,b1⟩
 change IR w1 W.heap.size v1 (symsP p)at own1
 obtain⟨a1,k1,rfl,t1,t2,-⟩:∃a c,v1= .slice a (symsP p).length c∧(symsP p).length≤c∧c≤maxLen∧True:=by
  rcases own1.2 with ⟨rfl,h0⟩|⟨gg,cap,cur,rfl,-,-,hn,hmx,-⟩
  ·exact⟨none,0,by rw[h0],by omega,Nat.zero_le _,trivial⟩
  ·exact⟨_,cap,rfl,hn,hmx,trivial⟩
 unfold maxLen at t2
 have LC:Hid (∀j x,(symsP p)[j]? =some x→∃gg,a1=some ⟨gg,0,none⟩∧W.heap.size≤gg∧gg<w1.heap.size∧w1.cell? ⟨gg,j,none⟩=some (.int .i64 x)):=by
  intro j x hx
  have hj:=(List.getElem?_eq_some_iff.1 hx).1
  rcases id own1.2 with ⟨e,h0⟩|⟨gg,cap,cur,e,hb,hk,-⟩
  ·omega
  ·injection e with e1 e2 e3
   subst e1
   refine⟨gg,rfl,hb,(Array.getElem?_eq_some_iff.1 hk).1,?_⟩
   have:=World.ownsRow.cellAt (own1) j (by omega)
   rw[List.getElem?_map,hx]at this
   exact this
 have HB1:=zk b1
 have c1':=(b1.cell (p:=⟨bi,0,none⟩) (by show bi<_;omega)).trans c1
 have S1:=zk ((zq HS0).kept (b1.block gs (by omega)))
 have J0:Hid (WiJ P n m S0 ((symsP p).take 0) S0 []):=WiJ.nil (zq HI0).len
 have hw1:=b1.size
 clear CS own1 b1 c1 c0 q0 q1 q2 HS0
 go_wp2_with fail
 generalize hLL:symsP p=L at*
 have HLL:=zk hLL
 clear hLL
 go_loopw [5,14] (fun o i wr=>∃(j:Nat) (S:List Bool) (found:List Int),j≤L.length∧found.length≤j∧i= .int .i64 (j:Int)∧Hid (BtV wr gs N S)∧Hid (WiJ P n m S0 (L.take j) S found)∧Hid (IR wr w1.heap.size o found)∧Hid (Bo gs w1 wr)) (fun _ i _=>L.length-(intOf i).toNat)
 case atStart=>exact⟨0,S0,[],Nat.zero_le _,Nat.le_refl _,rfl,S1,J0,IR.nil _ _,World.grownBy.refl _ _⟩
 case round=>
  clear S1 J0
  obtain⟨j,S,found,hj,hfl,rfl,hS,hJ,hI,hB⟩:=hrel
  have hwr:=(zq hB).size
  by_cases hlt:j<L.length
  ·obtain⟨x,hx⟩:∃x,L[j]? =some x:=⟨L[j],List.getElem?_eq_getElem hlt⟩
   obtain⟨q,rfl,hq⟩:=zq HR x (List.mem_of_getElem? hx)
   obtain⟨gg,rfl,hg1,hg2,qx⟩:=zq LC j _ hx
   have qx:=(World.cell?_of_block (a:=⟨gg,j,none⟩) ((zq hB).block gg hg2 (fun e=>by injection e;omega))).trans qx
   have cb:=(World.cell?_of_block (a:=⟨bi,0,none⟩) ((zq hB).block bi (by omega) (fun e=>hig (by injection e)))).trans c1'
   have tq:=BR.at (zq hS) hq
   have tz:=BR.fz (zq hS) q
   obtain⟨hjl,hje⟩:=List.getElem?_eq_some_iff.1 hx
   have tk:Hid (L.take (j+1)=L.take j++[(q:Int)]):=by show _=_;rw[List.take_succ_eq_append_getElem hjl,hje]
   cases hb:S.getD q false with
   |true=>
    rw[hb]at tq
    have NX:Hid (WiJ P n m S0 (L.take (j+1)) S found):=by
     show WiJ _ _ _ _ _ _ _
     rw[zq tk];exact(zq hJ).old hb
    clear hx hje hb hJ tk tz
    go_wp2_with fail
    exact⟨⟨j+1,S,found,by omega,by omega,by simp,hS,NX,hI,hB⟩,by simp[intOf];omega⟩
   |false=>
    rw[hb]at tq
    have NX:Hid (WiJ P n m S0 (L.take (j+1)) (S.set q true) (found++[(q:Int)])):=by
     show WiJ _ _ _ _ _ _ _
     rw[zq tk];exact(zq hJ).more hb (by rw[zq HNN];exact hq)
    have S2:BtV (wr.setCell ⟨gs,q,none⟩ (.bool true)) gs N (S.set q true):=BR.set (zq hS) q true
    have I2:IR (wr.setCell ⟨gs,q,none⟩ (.bool true)) w1.heap.size u5 found:=ju (zq hI) (fun k hk=>heap_setCell_other _ _ _ _ (fun e=>by have:=(XZ (zq hI) hk).1;have e:k=gs:=e;omega))
    have B2:Bo gs w1 (wr.setCell ⟨gs,q,none⟩ (.bool true)):=World.grownBy.trans (zq hB) ⟨rfl,rfl,rfl,by simp,fun k hk hne=>heap_setCell_other _ _ _ _ (fun e=>hne (by rw[show k=gs from e]))⟩
    have hsz:(wr.setCell ⟨gs,q,none⟩ (.bool true)).heap.size=wr.heap.size:=by simp
    obtain⟨v',w',hap,own',gr',hat⟩:=XV (World.ownsRow.alloc I2 (.cells #[.int .i64 (q:Int)] 3)) (by simp;omega) (g:=wr.heap.size) (by have:=heap_alloc_new (wr.setCell ⟨gs,q,none⟩ (.bool true)) (.cells #[.int .i64 (q:Int)] 3);rw[hsz]at this;exact this) (by omega)
    have HI2:Hid (IR w' w1.heap.size v' (found++[(q:Int)])):=by
     show World.ownsRow _ _ _ _ _ _ _
     rw[List.length_append,List.length_singleton,List.map_append];exact own'
    have gl:gs<wr.heap.size:=by omega
    have B3:Below w1.heap.size (wr.setCell ⟨gs,q,none⟩ (.bool true)) w':=((Below.refl _ _).alloc (by simp;omega) (.cells #[.int .i64 (q:Int)] 3)).grown gr' (by simp;omega) (fun k hk=>(XZ I2 hk).1)
    have HB2:Hid (Bo gs w1 w'):=⟨B3.os.trans B2.os,B3.tape.trans B2.tape,B3.output.trans B2.output,Nat.le_trans B2.size B3.size,fun k hk hne=>(B3.block k hk).trans (B2.block k hk hne)⟩
    have HS2:Hid (BtV w' gs N (S.set q true)):=S2.kept (B3.block gs (by omega))
    have hfl2:(found++[(q:Int)]).length≤j+1:=by simp;omega
    clear hx hje hb hJ tk S2 I2 B2 own' gr' hat B3 hS hI hB
    go_wp2_with (at_builtin;refine app_runk rfl _ _ 26 26 rfl rfl _ _ rfl rfl hap ?_)
    exact⟨⟨j+1,_,_,by omega,hfl2,by simp,HS2,NX,HI2,HB2⟩,by simp[intOf];omega⟩
  ·obtain rfl:j=L.length:=by omega
   have HFIN:Hid (∃k',k'<k∧FrM w0 P n bl bi gs (some ⟨g,off,none⟩) cP k' wr (upT (dlT T (m:Int)) found)∧(∀i,N0≤i→i<W.heap.size→wr.heap[i]? =W.heap[i]?)∧Below w0.heap.size W wr):=by
    have hJ:=zq hJ
    rw[List.take_length,←zq HLL]at hJ
    have hsy:symsN P m=symsP p:=by unfold symsN;rw[zq HP]
    have hf:=zq HF
    have b1:=zq HB1
    have hB:=zq hB
    have far:∀i,i<W.heap.size→i≠gs→wr.heap[i]? =W.heap[i]? :=fun i hi hne=>(hB.block i (by omega) (fun e=>hne (by injection e))).trans (b1.block i hi)
    have bel:Below w0.heap.size W wr:=⟨hB.os.trans b1.os,hB.tape.trans b1.tape,hB.output.trans b1.output,Nat.le_trans b1.size hB.size,fun i hi=>far i (by omega) (by omega)⟩
    have hc:=hJ.cnt
    have c1:=cnt_dl T (n:=P.length) (m:=m) (by have:=zq HNN;omega) hT
    have c2:=cnt_up (n:=P.length) found (dlT T (m:Int))
    have c3:=cntF_le P.length (fun i=>upT (dlT T (m:Int)) found (i:Int))
    have c4:=cntF_le P.length (fun i=>T (i:Int))
    rw[zq HNN]at hc c1 c2 c3 c4
    refine⟨2*Xw N (bt S)+(N-Xw N (fun i=>upT (dlT T (m:Int)) found (i:Int))),by omega,⟨hf.bel.trans bel,(far bl (by omega) hbg).trans hf.box,(far bi (by omega) hig).trans hf.ibx,S,by rw[zq HNN];exact zq hS,?_,by rw[zq HNN];omega⟩,fun i h1 h2=>far i h2 (by omega),bel⟩
    refine(zq HI0).step hT (by rw[hsy];exact hJ) (fun y hy=> ?_) (fun x=>rfl)
    rw[hsy]at hy
    rw[zq HNN]
    exact zq HR y (by rw[←zq HLL];exact hy)
   have HNS:=zk (Ns.of_own (zq hI))
   have HFO:Hid (∀y∈found,∃q:Nat,y=(q:Int)∧q<N):=fun y hy=>by
    obtain⟨q,e,hq,-⟩:=((zq hJ).new y).1 hy
    rw[List.take_length]at hq
    obtain⟨q2,e2,hq2⟩:=zq HR _ hq
    exact⟨q,e,by omega⟩
   have hle:found.length≤100000:=by omega
   clear hJ hI hB hS
   go_wp2_with fail
   go_ret
   obtain⟨k',f1,f2,f3,f4⟩:=zq HFIN
   exact⟨_,found,k',rfl,zq HNS,hle,zq HFO,f1,f2,f3,f4⟩
end Go.Proofs.YtcblkmlcbedomaaGreatDoor.Rc
