/- Parts of the proof that stand ahead of it (RankOrder 5). -/
import Derived.Test.YtcblkmlcbedomaaGreatDoorKM13
import Derived.Test.YtcblkmlcbedomaaGreatDoorRankOrderM3
set_option linter.unusedVariables false
set_option linter.unusedSimpArgs false
set_option maxRecDepth 20000
set_option maxHeartbeats 16000000
namespace Go.Proofs.YtcblkmlcbedomaaGreatDoor.K
open Go.RowKit Go.Shelf Go.Proofs.YtcblkmlcbedomaaGreatDoor.T Go.Proofs.YtcblkmlcbedomaaGreatDoor.R Go.Proofs.YtcblkmlcbedomaaGreatDoor.F Go.Proofs.YtcblkmlcbedomaaGreatDoor.Nl
theorem ce_at {w:World} {a:Option Addr} {n c:Nat} {l:List Int} (h:CeV (Value.int .i64) w (.slice a n c) l) {j:Nat} {x:Int} (hj:l[j]? =some x):∃g off,a=some ⟨g,off,none⟩∧g<w.heap.size∧w.cell? ⟨g,off+j,none⟩=some (.int .i64 x):=by
 obtain⟨a',c',e,-,-,h3⟩:=h
 injection e with e1 e2 e3
 subst e1
 exact h3 j x hj
def ThI (out:List Int) (q:Nat) (S:List Bool):Prop:=∀m:Nat,S.getD m false=decide ((m:Int)∈out.take q)
theorem ThI.zero (out:List Int) (n:Nat):ThI out 0 (List.replicate n false):=fun m=>by rw[rep_no];simp
theorem ThI.step {out:List Int} {q m:Nat} {S:List Bool} (h:ThI out q S) (hm:out[q]? =some (m:Int)) (hl:m<S.length):ThI out (q+1) (S.set m true):=by
 obtain⟨hq,e⟩:=List.getElem?_eq_some_iff.1 hm
 intro i
 rw[List.take_succ_eq_append_getElem hq,e]
 by_cases hi:i=m
 ·subst hi
  simp[List.getD_eq_getElem?_getD,List.getElem?_set,hl]
 ·have e2:(S.set m true).getD i false=S.getD i false:=by
   simp only[List.getD_eq_getElem?_getD,List.getElem?_set]
   rw[if_neg (fun c=>hi c.symm)]
  rw[e2,h i]
  have:((i:Int)=(m:Int))↔False:=⟨fun c=>hi (by omega),fun c=>c.elim⟩
  simp[this]
theorem gr_below {w w':World} (h:w.grownBy w' none):Below w.heap.size w w':=(Below.refl _ _).grown h (Nat.le_refl _) (fun k hk=>by cases hk)
theorem rankOrder_walk (v:Value) (g:GR) (w:World) (h:GrM w v g) (hf:∀p∈g.1,∀l∈p.1,∀s∈l,yQ s.2.2):
  Calls Tryz.prog 4 #[v] w fun e w'=>e= .returned (.bool true)∧Below w.heap.size w w':=by
 have CA:=zk (fun W=>awake10_l W)
 have CM:=zk (fun W (bW:Below w.heap.size w W)=>fMayM_l v g W (h.later bW))
 have CO:=zk (fun W (bW:Below w.heap.size w W)=>Order_l v g W (h.later bW))
 have CC:=zk (fun W (bW:Below w.heap.size w W)=>Circle_l v g W (h.later bW))
 have CL:=zk (fun(i:Nat) (p:PRD) (hi:g.1[i]? =some p) (hb:gramB g.1=true) W (bW:Below w.heap.size w W)=>nLefts_yes v g i p W (h.later bW) hb hi)
 obtain⟨a,c,aK,cK,rfl,hp,-⟩:=id h
 have CF:=zk (fun W (bW:Below w.heap.size w W)=>few_l a c g.2.length cK aK g.1 W ((hp.later bW).prl hf))
 generalize hnK:g.2.length=nK at*
 generalize hnP:g.1.length=nP at*
 have HNP:=zk hnP
 clear h hp hf hnK hnP
 go_enter Tryz.func4,Tryz.ntmps4
 go_wp2_with fail
 have G0:=heap_alloc_new w (.cells #[.slice a nP c,.slice aK nK cK] 25)
 refine(zq CA _).mono ?_
 clear CA
 rintro e w1 ⟨rfl,b1⟩
 have G1:=(b1.block _ (Array.getElem?_eq_some_iff.1 G0).1).trans G0
 obtain⟨y0,y1⟩:=XK G1
 have B1:=zk (Xk (Below.new1 _) b1)
 clear b1 G0
 go_wp2_with fail
 refine(zq CF _ (zq B1)).mono ?_
 clear CF
 rintro e w2 ⟨⟨r,rfl⟩,b2⟩
 have G2:=(b2.block _ (Array.getElem?_eq_some_iff.1 G1).1).trans G1
 have B2:=zk (Xk (zq B1) b2)
 clear b2 G1 B1 y0 y1
 obtain⟨y0,y1⟩:=XK G2
 cases r with
 |false=>
  go_wp2_with fail
  go_ret
  exact⟨rfl,zq B2⟩
 |true=>
  go_wp2_with fail
  refine(zq CM _ (zq B2)).mono ?_
  clear CM
  rintro e w3 ⟨rfl,b3⟩
  have G3:=(b3.block _ (Array.getElem?_eq_some_iff.1 G2).1).trans G2
  have B3:=zk (Xk (zq B2) b3)
  clear b3 G2 B2 y0 y1
  obtain⟨y0,y1⟩:=XK G3
  cases hg:gramB g.1 with
  |false=>
   go_wp2_with fail
   go_ret
   exact⟨rfl,zq B3⟩
  |true=>
   have H60:=(gram_ok hg).2.1
   have H1:=(gram_ok hg).1
   have HG:=zk hg
   clear hg
   go_wp2_with fail
   refine(zq CO _ (zq B3)).mono ?_
   clear CO
   rintro e w4 ⟨b4,h4⟩
   have G4:=(b4.block _ (Array.getElem?_eq_some_iff.1 G3).1).trans G3
   have B4:=zk (Xk (zq B3) b4)
   clear G3 y0 y1
   obtain⟨y0,y1⟩:=XK G4
   have hn1:1≤nP:=by rw[←zq HNP];exact H1
   have hn60:nP≤60:=by rw[←zq HNP];exact H60
   rcases h4 with ⟨hx,-⟩|⟨-,⟨q0,hq0⟩,rfl⟩|⟨-,hno,v',out,rfl,hv,ho⟩
   ·rw[zq HG]at hx;cases hx
   ·clear B3 b4 CL
    go_wp2_with fail
    refine(zq CC _ (zq B4)).mono ?_
    clear CC
    rintro e w5 ⟨b5,R,rfl,hR⟩
    have hR1:(R== -1)=false:=by
     rcases hR with ⟨-,hn⟩|⟨-,k,-,e,-⟩
     ·exact absurd hq0 (hn (zq HG) q0)
     ·exact beq_eq_false_iff_ne.2 (by omega)
    have G5:=(b5.block _ (Array.getElem?_eq_some_iff.1 G4).1).trans G4
    have B5:=zk (Xk (zq B4) b5)
    clear G4 y0 y1 b5 B4 hR hq0
    obtain⟨y0,y1⟩:=XK G5
    have bz:((0:Int)==(nP:Int))=false:=beq_eq_false_iff_ne.2 (by omega)
    have bz2:((0:Nat)==nP)=false:=beq_eq_false_iff_ne.2 (by omega)
    obtain⟨w6,hr,hB,gr⟩:=mk_bool w5.heap.size nP w5 (by omega) (Nat.le_refl _)
    have B6:=zk ((zq B5).trans ((gr_below gr).mono (zq B5).size))
    clear hB gr B5
    go_wp2_with fail
    go_loopw [8] (fun i wr=>i= .int .i64 0∧wr=w6) (fun i _=>0)
    case atStart=>exact⟨rfl,rfl⟩
    case round=>
     obtain⟨rfl,hw⟩:=hrel
     subst hw
     go_wp2_with fail
     go_ret
     exact⟨rfl,zq B6⟩
   ·clear b4
    have HNO:=zk hno
    have HO:=zk ho
    have lo:out.length=nP:=by rw[ho.len];exact zq HNP
    obtain⟨ao,co,rfl,h7,h8,-⟩:=inv_nsB hv (Nat.le_refl _)
    rw[lo]at h7
    unfold maxLen at h8
    have CE:=zk (ceOwn (enc:=Value.int .i64) hv)
    have HLO:=zk lo
    rw[lo]at CE⊢
    clear hno ho hv lo
    go_wp2_with fail
    refine(zq CC _ (zq B4)).mono ?_
    clear CC
    rintro e w5 ⟨b5,R,rfl,hR⟩
    obtain rfl:R= -1:=by
     rcases hR with ⟨e,-⟩|⟨-,k,-,-,hk,-⟩
     ·exact e
     ·exact absurd hk (zq HNO k)
    have G5:=(b5.block _ (Array.getElem?_eq_some_iff.1 G4).1).trans G4
    have B5:=zk (Xk (zq B4) b5)
    have CE5:=zk (CeV.later (zq CE) b5)
    clear G4 y0 y1 b5 B4 hR CE HNO B3
    obtain⟨y0,y1⟩:=XK G5
    obtain⟨w6,hr,hB,gr⟩:=mk_bool w5.heap.size nP w5 (by omega) (Nat.le_refl _)
    have B6:=zk (gr_below gr)
    have HB0:=zk hB
    have G5s:=(Array.getElem?_eq_some_iff.1 G5).1
    have HG5:=zk G5
    clear hB gr G5
    go_wp2_with fail
    go_loopw [8] (fun i wr=>∃(q:Nat) (S:List Bool),q≤nP∧i= .int .i64 (q:Int)∧Hid (BR wr w5.heap.size w5.heap.size nP nP S)∧Hid (ThI out q S)∧Hid (Below w5.heap.size w5 wr)) (fun i _=>nP-(intOf i).toNat)
    case atStart=>exact⟨0,_,Nat.zero_le _,rfl,HB0,ThI.zero _ _,B6⟩
    case round=>
     clear HB0 B6 hr
     obtain⟨q,S,hq,rfl,hS,hT,hB⟩:=hrel
     have G6:=((zq hB).block _ G5s).trans (zq HG5)
     obtain⟨y0,y1⟩:=XK G6
     by_cases hlt:q<nP
     ·obtain⟨y,hy⟩:∃y,out[q]? =some y:=⟨out[q]'(by have:=zq HLO;omega),List.getElem?_eq_getElem _⟩
      obtain⟨m,rfl,hmn⟩:=(zq HO).rng y (List.mem_of_getElem? hy)
      rw[zq HNP]at hmn
      obtain⟨g1,o1,eA,hg1,qm⟩:=ce_at (zq CE5) hy
      have qm:=((zq hB).cell (p:=⟨g1,o1+q,none⟩) hg1).trans qm
      subst eA
      have hnt:S.getD m false=false:=by
       rw[zq hT m]
       refine decide_eq_false fun hc=> ?_
       obtain⟨j,hj⟩:=List.getElem?_of_mem hc
       have hj1:=(List.getElem?_eq_some_iff.1 hj).1
       rw[List.length_take]at hj1
       rw[List.getElem?_take_of_lt (by omega)]at hj
       obtain⟨k1,e1⟩:=List.getElem?_eq_some_iff.1 hj
       obtain⟨k2,e2⟩:=List.getElem?_eq_some_iff.1 hy
       have:=List.pairwise_iff_getElem.1 (zq HO).nd j q k1 k2 (by omega)
       exact this (e1.trans e2.symm)
      have tc:=(zq hS).at hmn
      rw[hnt]at tc
      obtain⟨p,hp⟩:∃p,g.1[m]? =some p:=⟨g.1[m]'(by have:=zq HNP;omega),List.getElem?_eq_getElem _⟩
      have CL5:=zk (fun X (bX:Below wr.heap.size wr X)=>zq CL m p hp (zq HG) X ((zq B5).trans (((zq hB).mono (zq B5).size).trans (bX.mono (Nat.le_trans (zq B5).size (zq hB).size)))))
      have c1:decide ((m:Int)<0)=false:=decide_eq_false (by omega)
      have c2:decide ((nP:Int)≤(m:Int))=false:=decide_eq_false (by omega)
      have c3:decide (nP≤m)=false:=decide_eq_false (by omega)
      have HY:=zk hy
      have HNT:=zk hnt
      have hs1:=(zq hB).size
      clear hy hnt hp
      go_wp2_with fail
      go_quiet (fail)
      go_wp2_with fail
      go_region_held3 (fun w'=>w'.cell? ⟨w.heap.size,0,none⟩=some (.slice a nP c)∧w'.cell? ⟨w.heap.size,1,none⟩=some (.slice aK nK cK)∧w'.cell? ⟨g1,o1+q,none⟩=some (.int .i64 (m:Int)))
       (first
        |exact⟨y0,y1,qm⟩
        |exact⟨(b7.cell (p:=⟨w.heap.size,0,none⟩) (zJ y0)).trans y0,(b7.cell (p:=⟨w.heap.size,1,none⟩) (zJ y0)).trans y1,(b7.cell (p:=⟨g1,o1+q,none⟩) (zJ qm)).trans qm⟩)
       ((go_at_call 24;refine(zq CL5 _ T.zX).mono ?_;rintro e w7 ⟨vL,L,rfl,iL,pL,mL,b7'⟩;have b7:=Xk (T.zX (w:=wr)) b7';clear b7'))
      all_goals (
       have B7:=zk ((zq hB).trans (b7.mono hs1))
       have S7:=zk ((zq hS).kept (b7.block _ (Xj (zq hS) rfl).2))
       have CEL:=zk (ceOwn (enc:=Value.int .i64) iL)
       have ML:=zk mL
       have tz:=(zq S7).fz m
       have tc7:=(zq S7).at hmn
       have qm7:=(b7.cell (p:=⟨g1,o1+q,none⟩) (zJ qm)).trans qm
       obtain⟨aL,cL,rfl,k7,k8,-⟩:=inv_nsB iL (Nat.le_refl _)
       unfold maxLen at k8
       clear iL pL mL b7 hS hB CL5 y0 y1 qm G6)
      all_goals (go_wp2_with fail)
      all_goals (
       go_loopw [10] (fun i wr=>∃j:Nat,j≤L.length∧i= .int .i64 (j:Int)∧wr=w7) (fun i _=>L.length-(intOf i).toNat)
       case atStart=>exact⟨0,Nat.zero_le _,rfl,rfl⟩
       case round=>
        obtain⟨j,hj,rfl,hw⟩:=hrel
        subst hw
        by_cases hlj:j<L.length
        ·have hx:=List.getElem?_eq_getElem hlj
         have hin:=(zq HO).ord q m (zq HY) _ ((zq ML _).1 (List.getElem_mem hlj))
         obtain⟨r,er,hr⟩:=(zq HO).rng _ (List.mem_of_mem_take hin)
         rw[zq HNP]at hr
         rw[er]at hx hin
         have hrt:S.getD r false=true:=by rw[zq hT r];exact decide_eq_true hin
         have tr:=(zq S7).at hr
         rw[hrt]at tr
         obtain⟨g2,o2,eL,-,ql⟩:=ce_at (zq CEL) hx
         subst eL
         have d1:decide ((r:Int)<0)=false:=decide_eq_false (by omega)
         have d2:decide ((nP:Int)≤(r:Int))=false:=decide_eq_false (by omega)
         have d3:decide (nP≤r)=false:=decide_eq_false (by omega)
         clear hx hin er hrt tc7 tz qm7
         go_wp2_with fail
         exact⟨⟨j+1,by omega,by simp,trivial⟩,by simp[intOf];omega⟩
        ·obtain rfl:j=L.length:=by omega
         have S8:Hid (BR (wr.setCell ⟨w5.heap.size,m,none⟩ (.bool true)) w5.heap.size w5.heap.size nP nP (S.set m true)):=(zq S7).set m true
         have T8:=zk ((zq hT).step (zq HY) (by rw[(zq S7).len];exact hmn))
         have B8:=zk ((zq B7).setCell (p:=⟨w5.heap.size,m,none⟩) (Nat.le_refl _) (.bool true))
         clear S7 B7
         go_wp2_with fail
         exact⟨⟨q+1,_,by omega,by simp,S8,T8,B8⟩,by simp[intOf];omega⟩)
     ·obtain rfl:q=nP:=by omega
      have FB:=zk ((zq B5).trans ((zq hB).mono (zq B5).size))
      clear hB hS hT
      go_wp2_with fail
      go_ret
      exact⟨rfl,zq FB⟩
end Go.Proofs.YtcblkmlcbedomaaGreatDoor.K
