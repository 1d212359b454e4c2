/- Parts of the proof that stand ahead of it (ReachTells 8). -/
import Derived.Test.YtcblkmlcbedomaaGreatDoorRM7
import Derived.Test.YtcblkmlcbedomaaGreatDoorReachTellsM1
import Derived.Test.YtcblkmlcbedomaaGreatDoorRM10
import Derived.Test.YtcblkmlcbedomaaGreatDoorReachTellsM7
set_option linter.unusedVariables false
set_option linter.unusedSimpArgs false
set_option maxRecDepth 20000
set_option maxHeartbeats 16000000
namespace Go.Proofs.YtcblkmlcbedomaaGreatDoor.Nl
open Go.RowKit Go.Shelf Go.Proofs.YtcblkmlcbedomaaGreatDoor.F
def SyL (w:World) (B:Nat) (v:Value) (l:List SY):Prop:=∃a c,v= .slice a l.length c∧l.length≤c∧c≤maxLen∧
 ∀j s,l[j]? =some s→yQ s.2.2∧∃g off x n k,a=some ⟨g,off,none⟩∧g<B∧w.cell? ⟨g,off+3*j,none⟩=some (.int .i64 s.1)∧w.cell? ⟨g,off+3*j+1,none⟩=some (.slice x n k)∧w.cell? ⟨g,off+3*j+2,none⟩=some (.int .i64 s.2.2)
def AltL (w:World) (B:Nat) (v:Value) (A:List (List SY)):Prop:=∃a c,v= .slice a A.length c∧A.length≤c∧c≤maxLen∧
 ∀j l,A[j]? =some l→∃g off u,a=some ⟨g,off,none⟩∧g<B∧w.cell? ⟨g,off+j,none⟩=some u∧SyL w B u l
def PrL (w:World) (B:Nat) (v:Value) (P:List PRD):Prop:=∃a c,v= .slice a P.length c∧P.length≤c∧c≤maxLen∧
 ∀j p,P[j]? =some p→∃g off u m x n k,a=some ⟨g,off,none⟩∧g<B∧w.cell? ⟨g,off+3*j,none⟩=some u∧w.cell? ⟨g,off+3*j+1,none⟩=some (.int .i64 m)∧w.cell? ⟨g,off+3*j+2,none⟩=some (.slice x n k)∧AltL w B u p.1
theorem SyL.kept {w X:World} {B B':Nat} {v:Value} {l:List SY} (h:SyL w B v l) (k:∀g,g<B→g<B'∧X.heap[g]? =w.heap[g]?):SyL X B' v l:=by
 obtain⟨a,c,e,h1,h2,h3⟩:=h
 refine⟨a,c,e,h1,h2,fun j s hj=> ?_⟩
 obtain⟨hf,g,off,x,n,kk,ha,hg,q0,q1,q2⟩:=h3 j s hj
 have hc:=World.cell?_of_block (w:=w) (w':=X) (a:=⟨g,off,none⟩) (k g hg).2
 refine⟨hf,g,off,x,n,kk,ha,(k g hg).1,?_,?_,?_⟩
 ·rw[World.cell?_of_block (w:=w) (a:=⟨g,off+3*j,none⟩) (k g hg).2];exact q0
 ·rw[World.cell?_of_block (w:=w) (a:=⟨g,off+3*j+1,none⟩) (k g hg).2];exact q1
 ·rw[World.cell?_of_block (w:=w) (a:=⟨g,off+3*j+2,none⟩) (k g hg).2];exact q2
theorem AltL.kept {w X:World} {B B':Nat} {v:Value} {A:List (List SY)} (h:AltL w B v A) (k:∀g,g<B→g<B'∧X.heap[g]? =w.heap[g]?):AltL X B' v A:=by
 obtain⟨a,c,e,h1,h2,h3⟩:=h
 refine⟨a,c,e,h1,h2,fun j l hj=> ?_⟩
 obtain⟨g,off,u,ha,hg,q0,hs⟩:=h3 j l hj
 exact⟨g,off,u,ha,(k g hg).1,by rw[World.cell?_of_block (w:=w) (a:=⟨g,off+j,none⟩) (k g hg).2];exact q0,hs.kept k⟩
theorem PrL.kept {w X:World} {B B':Nat} {v:Value} {P:List PRD} (h:PrL w B v P) (k:∀g,g<B→g<B'∧X.heap[g]? =w.heap[g]?):PrL X B' v P:=by
 obtain⟨a,c,e,h1,h2,h3⟩:=h
 refine⟨a,c,e,h1,h2,fun j p hj=> ?_⟩
 obtain⟨g,off,u,m,x,n,kk,ha,hg,q0,q1,q2,hs⟩:=h3 j p hj
 refine⟨g,off,u,m,x,n,kk,ha,(k g hg).1,?_,?_,?_,hs.kept k⟩
 ·rw[World.cell?_of_block (w:=w) (a:=⟨g,off+3*j,none⟩) (k g hg).2];exact q0
 ·rw[World.cell?_of_block (w:=w) (a:=⟨g,off+3*j+1,none⟩) (k g hg).2];exact q1
 ·rw[World.cell?_of_block (w:=w) (a:=⟨g,off+3*j+2,none⟩) (k g hg).2];exact q2
theorem PrL.later {w X:World} {B:Nat} {v:Value} {P:List PRD} (h:PrL w B v P) (b:Below B w X):PrL X B v P:=h.kept fun g hg=>⟨hg,b.block g hg⟩
theorem nkept {W w1:World} {o:Obj} (b:Below (W.alloc o).heap.size (W.alloc o) w1):w1.heap[W.heap.size]? =some o:=(b.block _ (by simp)).trans (heap_alloc_new W o)
theorem ncells2 {W:World} {g:Nat} {x0 x1:Value} {t:TypeId} (h:W.heap[g]? =some (.cells #[x0,x1] t)):
  W.cell? ⟨g,0,none⟩=some x0∧W.cell? ⟨g,1,none⟩=some x1∧W.frozen? ⟨g,0,none⟩=false∧W.frozen? ⟨g,1,none⟩=false:=by
 refine⟨?_,?_,?_,?_⟩<;>simp[World.cell?,World.frozen?,h]
attribute [local go_sem] Oper.semAt_some
end Go.Proofs.YtcblkmlcbedomaaGreatDoor.Nl
set_option linter.unusedVariables false
set_option linter.unusedSimpArgs false
set_option maxRecDepth 20000
set_option maxHeartbeats 16000000
namespace Go.Proofs.YtcblkmlcbedomaaGreatDoor.Nl
open Go.RowKit Go.Shelf Go.Proofs.YtcblkmlcbedomaaGreatDoor.T Go.Proofs.YtcblkmlcbedomaaGreatDoor.R Go.Proofs.YtcblkmlcbedomaaGreatDoor.F
/-! ### What came of flat, and what package null reads -/
theorem SyM.syl {w:World} {v:Value} {l:List SY} (h:SyM w v l) (hf:∀s∈l,yQ s.2.2):SyL w w.heap.size v l:=by
 obtain⟨a,c,e,h1,h2,h3⟩:=h
 refine⟨a,c,e,h1,h2,fun j s hj=> ?_⟩
 obtain⟨g,off,x,k,ha,hg,q0,q1,q2,-⟩:=h3 j s hj
 exact⟨hf s (List.mem_of_getElem? hj),g,off,x,_,k,ha,hg,q0,q1,q2⟩
theorem PrM.prl {w:World} {v:Value} {P:List PRD} (h:PrM w v P) (hf:∀p∈P,∀a∈p.1,∀s∈a,yQ s.2.2):PrL w w.heap.size v P:=by
 obtain⟨a,c,e,h1,h2,h3⟩:=h
 refine⟨a,c,e,h1,h2,fun j p hj=> ?_⟩
 obtain⟨g,off,u,u2,ha,hg,q0,q1,q2,hA,hN⟩:=h3 j p hj
 obtain⟨x2,k2,rfl,-⟩:=hN
 refine⟨g,off,u,_,x2,_,k2,ha,hg,q0,q1,q2,?_⟩
 obtain⟨aA,cA,eA,hA1,hA2,hA3⟩:=hA
 refine⟨aA,cA,eA,hA1,hA2,fun j' l hj'=> ?_⟩
 obtain⟨g',off',u',ha',hg',q0',hs⟩:=hA3 j' l hj'
 exact⟨g',off',u',ha',hg',q0',hs.syl (hf p (List.mem_of_getElem? hj) l (List.mem_of_getElem? hj'))⟩
def AnyB (e:Ending):Prop:=∃r,e= .returned (.bool r)
theorem anyB (r:Bool):AnyB (.returned (.bool r)):=⟨r,rfl⟩
theorem few_l (a:Option Addr) (c nK cK:Nat) (aK:Option Addr) (P:List PRD) (w:World) (h:PrL w w.heap.size (.slice a P.length c) P):
  Calls Tryz.prog 15 #[.agg #[.slice a P.length c,.slice aK nK cK]] w fun e w'=>AnyB e∧Below w.heap.size w w':=by
 obtain⟨a0,c0,e0,hc1,hc2,-⟩:=id h
 injection e0 with e1 e2 e3
 subst e1;subst e3
 unfold maxLen at hc2
 have HP:=zk h
 clear h e2
 have B1:Below w.heap.size w (w.alloc (.cells #[.slice a P.length c,.slice aK nK cK] 25)):=Below.new1 _
 have G0:=heap_alloc_new w (.cells #[.slice a P.length c,.slice aK nK cK] 25)
 by_cases h62:62<P.length
 ·have b1:decide (62<(P.length:Int))=true:=decide_eq_true (by omega)
  generalize P.length=nP at*
  clear h62 HP G0
  go_enter Tryz.func15,Tryz.ntmps15
  go_wp2_with fail
  go_ret
  exact⟨anyB _,B1⟩
 ·have b1:decide (62<(P.length:Int))=false:=decide_eq_false (by omega)
  by_cases h12:12<nK
  ·have b2:decide (12<(nK:Int))=true:=decide_eq_true (by omega)
   generalize P.length=nP at*
   clear h62 h12 HP G0
   go_enter Tryz.func15,Tryz.ntmps15
   go_wp2_with fail
   go_ret
   exact⟨anyB _,B1⟩
  ·have b2:decide (12<(nK:Int))=false:=decide_eq_false (by omega)
   clear h12
   go_enter Tryz.func15,Tryz.ntmps15
   go_wp2_with fail
   have HB1:=zk B1
   have HG0:=zk G0
   have sz:(w.alloc (.cells #[.slice a P.length c,.slice aK nK cK] 25)).heap.size=w.heap.size+1:=by simp
   clear B1 G0
   generalize (w.alloc (.cells #[.slice a P.length c,.slice aK nK cK] 25))=W1 at*
   obtain⟨y0,y1,-,-⟩:=ncells2 (zq HG0)
   go_loop [3,4] (fun n i=>∃(z:Int) (j:Nat),j≤P.length∧n= .int .i64 z∧i= .int .i64 (j:Int)) (fun _ i=>P.length-(intOf i).toNat)
   case atStart=>exact⟨0,0,Nat.zero_le _,rfl,rfl⟩
   case round=>
    obtain⟨z,j,hj,rfl,rfl⟩:=hrel
    by_cases hlt:j<P.length
    ·obtain⟨a',c',e,-,-,h3⟩:=(zq HP).later (zq HB1)
     injection e with e1 e2 e3
     subst e1;subst e3
     obtain⟨g,off,u,m,x,n',kk,rfl,hg,q0,q1,q2,hA⟩:=h3 j P[j] (by simp[hlt])
     obtain⟨aA,cA,rfl,hA1,hA2,hA3⟩:=hA
     have HA3:=zk hA3
     unfold maxLen at hA2
     have j3:j*3=3*j:=by omega
     clear h3 e2 hA3
     generalize P[j]=p at*
     go_wp2_with fail
     go_loop [3,5] (fun n i=>∃(z:Int) (k:Nat),k≤p.1.length∧n= .int .i64 z∧i= .int .i64 (k:Int)) (fun _ i=>p.1.length-(intOf i).toNat)
     case atStart=>exact⟨z,0,Nat.zero_le _,rfl,rfl⟩
     case round=>
      obtain⟨z1,k,hk,rfl,rfl⟩:=hrel
      by_cases hlt2:k<p.1.length
      ·obtain⟨g2,off2,u2,rfl,hg2,r0,hsy⟩:=zq HA3 k p.1[k] (by simp[hlt2])
       obtain⟨a5,c5,rfl,hs1,hs2,hs3⟩:=hsy
       have HS3:=zk hs3
       unfold maxLen at hs2
       clear hs3
       generalize p.1[k]=l at*
       go_wp2_with fail
       go_loop [3,6] (fun n i=>∃(z:Int) (m:Nat),m≤l.length∧n= .int .i64 z∧i= .int .i64 (m:Int)) (fun _ i=>l.length-(intOf i).toNat)
       case atStart=>exact⟨_,0,Nat.zero_le _,rfl,rfl⟩
       case round=>
        obtain⟨z2,m5,hm5,rfl,rfl⟩:=hrel
        by_cases hlt3:m5<l.length
        ·obtain⟨hf,g5,off5,x5,n5,k5,rfl,hg5,t0,t1,t2⟩:=zq HS3 m5 l[m5] (by simp[hlt3])
         have m3:m5*3=3*m5:=by omega
         by_cases hz:z2<1000
         ·go_wp2_with fail
          go_round
          case rel=>exact⟨_,m5+1,by omega,rfl,by simp⟩
          case measure=>simp[intOf];omega
         ·go_wp2_with fail
          go_round
          case rel=>exact⟨_,k+1,by omega,rfl,by simp⟩
          case measure=>simp[intOf];omega
        ·obtain rfl:m5=l.length:=by omega
         go_wp2_with fail
         go_round
         case rel=>exact⟨_,k+1,by omega,rfl,by simp⟩
         case measure=>simp[intOf];omega
      ·obtain rfl:k=p.1.length:=by omega
       go_wp2_with fail
       all_goals first
        |(go_ret;exact⟨anyB _,zq HB1⟩)
        |(go_round;(case rel=>exact⟨_,j+1,by omega,rfl,by simp⟩);(case measure=>(simp[intOf];omega)))
    ·obtain rfl:j=P.length:=by omega
     go_wp2_with fail
     go_ret
     exact⟨anyB _,zq HB1⟩
def allB (l:List (Int×Int)):Bool:=l.all fun r=>decide (r.2≤255)
theorem last_ge:∀(l:List (Int×Int)) (least:Int),G.yZ least l=true→∀r∈l,r.2≤(l.getD (l.length-1) (0,0)).2:=by
 intro l
 induction l with
 |nil=>intro _ _ r hr;cases hr
 |cons x t ih=>
  intro least h r hr
  unfold G.yZ at h
  simp only[Bool.and_eq_true,decide_eq_true_eq]at h
  cases t with
  |nil=>simp at hr;subst hr;simp
  |cons y t=>
   have h4:=h.2
   have e:((x::y::t).getD ((x::y::t).length-1) (0,0)).2=((y::t).getD ((y::t).length-1) (0,0)).2:=by simp[List.getD_eq_getElem?_getD]
   rw[e]
   rcases List.mem_cons.1 hr with rfl|hr
   ·have:=ih _ h4 y List.mem_cons_self
    unfold G.yZ at h4
    simp only[Bool.and_eq_true,decide_eq_true_eq]at h4
    omega
   ·exact ih _ h4 r hr
theorem by_all {l:List (Int×Int)} (h:G.zo l=true):byB l=allB l:=by
 unfold byB
 rw[Bool.eq_iff_iff]
 simp only[Bool.or_eq_true,decide_eq_true_eq,allB,List.all_eq_true]
 constructor
 ·intro hh r hr
  rcases hh with hh|hh
  ·have:=List.eq_nil_of_length_eq_zero hh;subst this;cases hr
  ·have:=last_ge l 0 h r hr;omega
 ·intro hh
  by_cases h0:l.length=0
  ·exact .inl h0
  ·refine .inr (hh _ ?_)
   rw[List.getD_eq_getElem?_getD,List.getElem?_eq_getElem (by omega)]
   exact List.getElem_mem (by omega)
theorem symB_no {k N many:Int} {R:List (Int×Int)} (h2:k≠2):symB (k,R,N) many=((!decide (k=0)||allB R)&&((decide (k=0)||decide (k=1))&&(G.zo R&&decide (N=0)))):=by
 unfold symB
 simp only[h2,if_false]
 by_cases h0:k=0
 ·rw[if_pos h0]
  cases hm:G.zo R with
  |false=>simp
  |true=>rw[by_all hm];cases allB R<;>simp[h0]
 ·rw[if_neg h0]
  by_cases h1:k=1
  ·rw[if_pos h1];subst h1;simp[Bool.and_comm]
  ·rw[if_neg h1];simp[h0,h1]
theorem allB_take {l:List (Int×Int)} {j:Nat} (h:j<l.length):allB (l.take (j+1))=(allB (l.take j)&&decide ((l.getD j (0,0)).2≤255)):=by
 unfold allB
 rw[List.take_succ_eq_append_getElem h,List.all_append,List.getD_eq_getElem?_getD,List.getElem?_eq_getElem h];simp
theorem allB_no {l:List (Int×Int)} {j:Nat} (h:j<l.length) (hb:¬(l.getD j (0,0)).2≤255):allB l=false:=by
 unfold allB
 rw[Bool.eq_false_iff]
 intro c
 rw[List.all_eq_true]at c
 have:=c _ (List.getElem_mem h)
 rw[List.getD_eq_getElem?_getD,List.getElem?_eq_getElem h]at hb
 simp at this hb;omega
theorem sym8_l (s:SY) (a:Option Addr) (c:Nat) (many:Int) (w:World) (h:Rs w a s.2.1.length c s.2.1):
  Calls Tryz.prog 71 #[.agg #[.int .i64 s.1,.slice a s.2.1.length c,.int .i64 s.2.2],.int .i64 many] w fun e w'=>e= .returned (.bool (symB s many))∧Below w.heap.size w w':=by
 have B1:∀o,Below w.heap.size w (w.alloc o):=fun o=>Below.new1 o
 have CM:=zk (fun W (bW:Below w.heap.size w W)=>rgRefMay_any a s.2.1.length c s.2.1 W (h.later bW (Nat.le_refl _)))
 obtain⟨k,R,N⟩:=s
 simp only at h CM⊢
 have hc:=h.hcap
 have hm:=h.hmax
 unfold maxLen at hm
 have HR:=zk h
 clear h
 by_cases hk2:k=2
 ·have bk:(k==2)=true:=by simp[hk2]
  have FIN:Hid (symB (k,R,N) many=(decide (0≤N)&&(decide (N<many)&&decide (R.length=0)))):=by show _=_;unfold symB;simp[hk2]
  clear hk2 HR
  generalize hrm:G.zo R=rm at*
  clear hrm
  generalize symB (k,R,N) many=sb at*
  generalize R.length=n at*
  go_enter Tryz.func71,Tryz.ntmps71
  go_wp2_with fail
  refine(zq CM _ (B1 _)).mono ?_
  rintro e w1 ⟨rfl,b1⟩
  clear CM
  obtain⟨⟨x0,x1,x2⟩,-⟩:=jJ (ze b1)
  have BB:=zk (zY (B1 _) b1)
  clear b1
  by_cases h0:0≤N
  ·have b0:decide (0≤N)=true:=decide_eq_true h0
   by_cases hn:N<many
   ·have bn:decide (N<many)=true:=decide_eq_true hn
    by_cases hz:n=0
    ·have bz:((n:Int)==0)=true:=by simp[hz]
     have bz2:(n==0)=true:=by simp[hz]
     have FB:Hid (sb=true):=by show _=_;rw[zq FIN];simp[h0,hn,hz]
     clear FIN h0 hn hz
     go_wp2_with fail
     go_ret
     exact⟨ret_bool (zq FB).symm,zq BB⟩
    ·have bz:((n:Int)==0)=false:=by simp;omega
     have bz2:(n==0)=false:=by simp[hz]
     have FB:Hid (sb=false):=by show _=_;rw[zq FIN];simp[hz]
     clear FIN h0 hn hz
     go_wp2_with fail
     go_ret
     exact⟨ret_bool (zq FB).symm,zq BB⟩
   ·have bn:decide (N<many)=false:=decide_eq_false hn
    have FB:Hid (sb=false):=by show _=_;rw[zq FIN];simp[hn]
    clear FIN h0 hn
    go_wp2_with fail
    go_ret
    exact⟨ret_bool (zq FB).symm,zq BB⟩
  ·have b0:decide (0≤N)=false:=decide_eq_false h0
   have FB:Hid (sb=false):=by show _=_;rw[zq FIN];simp[h0]
   clear FIN h0
   go_wp2_with fail
   go_ret
   exact⟨ret_bool (zq FB).symm,zq BB⟩
 ·have bk:(k==2)=false:=by simp[hk2]
  have FIN:=zk (symB_no (k:=k) (N:=N) (many:=many) (R:=R) hk2)
  generalize hrm:G.zo R=rm at*
  clear hrm hk2
  generalize symB (k,R,N) many=sb at*
  go_enter Tryz.func71,Tryz.ntmps71
  go_wp2_with fail
  refine(zq CM _ (B1 _)).mono ?_
  rintro e w1 ⟨rfl,b1⟩
  clear CM
  obtain⟨⟨x0,x1,x2⟩,-⟩:=jJ (ze b1)
  have BB:=zk (zY (B1 _) b1)
  clear b1
  go_wp2_with fail
  go_loopw [6] (fun v wr=>∃(j:Nat),j≤R.length∧v= .int .i64 (j:Int)∧Hid (k=0→allB (R.take j)=true)∧Hid (Below w1.heap.size w1 wr)) (fun v _=>R.length-(intOf v).toNat)
  case atStart=>exact⟨0,Nat.zero_le _,rfl,fun _=>rfl,Below.refl _ _⟩
  case round=>
   obtain⟨j,hj,rfl,hA,hB⟩:=hrel
   have B0:=zY (zq BB) (zq hB)
   have y0:∀d,(wr.drewN d).cell? ⟨w.heap.size,0,none⟩=some (.int .i64 k):=fun d=>((zq hB).cell (p:=⟨w.heap.size,0,none⟩) (zJ x0)).trans x0
   have y1:∀d,(wr.drewN d).cell? ⟨w.heap.size,1,none⟩=some (.slice a R.length c):=fun d=>((zq hB).cell (p:=⟨w.heap.size,1,none⟩) (zJ x1)).trans x1
   have y2:∀d,(wr.drewN d).cell? ⟨w.heap.size,2,none⟩=some (.int .i64 N):=fun d=>((zq hB).cell (p:=⟨w.heap.size,2,none⟩) (zJ x2)).trans x2
   have z0:=y0 0
   have z1:=y1 0
   have z2:=y2 0
   simp only[World.drewN_zero]at z0 z1 z2
   by_cases hlt:j<R.length
   ·obtain⟨g,off,rfl,q1,q2⟩:=(zq HR).hcell j hlt
    have hg:g<w.heap.size:=zJ q2
    have j2:j*2=2*j:=by omega
    rw[j2]at q2
    have r2:∀d,(wr.drewN d).cell? ⟨g,off+2*j+1,none⟩=some (.int .i64 (R.getD j (0,0)).2):=fun d=>(B0.cell (p:=⟨g,off+2*j+1,none⟩) hg).trans q2
    have t2:=r2 0
    simp only[World.drewN_zero]at t2
    have ST:=zk (allB_take (l:=R) hlt)
    have NO:=zk (fun hb=>allB_no (l:=R) (j:=j) hlt hb)
    clear q1 q2
    generalize (R.getD j (0,0)).2=H at*
    by_cases hk0:k=0
    ·have b0:(k==0)=true:=by simp[hk0]
     by_cases hH:H≤255
     ·have bH:decide (255<H)=false:=decide_eq_false (by omega)
      have NX:Hid (k=0→allB (R.take (j+1))=true):=fun _=>by rw[zq ST,zq hA hk0];simp[hH]
      clear ST NO hA hk0 B0 hH
      go_wp2_with fail
      all_goals try go_quiet (fail)
      all_goals try go_wp2_with fail
      first|exact⟨⟨j+1,by omega,by simp,NX,hB⟩,by simp[intOf];omega⟩|exact⟨⟨j+1,by omega,by simp,NX,(zq hB).trans zX⟩,by simp[intOf];omega⟩
     ·have bH:decide (255<H)=true:=decide_eq_true (by omega)
      have FB:Hid (sb=false):=by show _=_;rw[zq FIN,zq NO hH];simp[hk0]
      clear ST NO hA hk0 hH FIN
      go_wp2_with fail
      all_goals try go_quiet (fail)
      all_goals try go_wp2_with fail
      go_ret
      first|exact⟨ret_bool (zq FB).symm,B0⟩|exact⟨ret_bool (zq FB).symm,B0.trans zX⟩
    ·have b0:(k==0)=false:=by simp[hk0]
     have NX:Hid (k=0→allB (R.take (j+1))=true):=fun e=>absurd e hk0
     clear ST NO hA hk0 B0
     go_wp2_with fail
     all_goals try go_quiet (fail)
     all_goals try go_wp2_with fail
     first|exact⟨⟨j+1,by omega,by simp,NX,hB⟩,by simp[intOf];omega⟩|exact⟨⟨j+1,by omega,by simp,NX,(zq hB).trans zX⟩,by simp[intOf];omega⟩
   ·obtain rfl:j=R.length:=by omega
    have FB:Hid (sb=((decide (k=0)||decide (k=1))&&(rm&&decide (N=0)))):=by
     show _=_
     rw[zq FIN]
     by_cases hk0:k=0
     ·have:=zq hA hk0
      rw[List.take_length]at this
      rw[this];simp[hk0]
     ·simp[hk0]
    clear FIN hA
    rcases (show(k=0∧k≠1)∨(k≠0∧k=1)∨(k≠0∧k≠1) by omega)with ⟨hk0,hk1⟩|⟨hk0,hk1⟩|⟨hk0,hk1⟩
    ·by_cases hN:N=0
     ·have b0:(k==0)=true:=by simp;omega
      have b1:(k==1)=false:=by simp;omega
      have bn:(N==0)=true:=by simp;omega
      cases rm with
      |false=>
       have FC:Hid (sb=false):=by show _=_;rw[zq FB];simp
       clear FB hN hk0 hk1
       go_wp2_with fail
       all_goals try go_quiet (fail)
       all_goals try go_wp2_with fail
       go_ret
       first|exact⟨ret_bool (zq FC).symm,B0⟩|exact⟨ret_bool (zq FC).symm,B0.trans zX⟩
      |true=>
       have FC:Hid (sb=true):=by show _=_;rw[zq FB];simp[hk0,hk1,hN]
       clear FB hN hk0 hk1
       go_wp2_with fail
       all_goals try go_quiet (fail)
       all_goals try go_wp2_with fail
       go_ret
       first|exact⟨ret_bool (zq FC).symm,B0⟩|exact⟨ret_bool (zq FC).symm,B0.trans zX⟩
     ·have b0:(k==0)=true:=by simp;omega
      have b1:(k==1)=false:=by simp;omega
      have bn:(N==0)=false:=by simp;omega
      cases rm with
      |false=>
       have FC:Hid (sb=false):=by show _=_;rw[zq FB];simp
       clear FB hN hk0 hk1
       go_wp2_with fail
       all_goals try go_quiet (fail)
       all_goals try go_wp2_with fail
       go_ret
       first|exact⟨ret_bool (zq FC).symm,B0⟩|exact⟨ret_bool (zq FC).symm,B0.trans zX⟩
      |true=>
       have FC:Hid (sb=false):=by show _=_;rw[zq FB];simp[hk0,hk1,hN]
       clear FB hN hk0 hk1
       go_wp2_with fail
       all_goals try go_quiet (fail)
       all_goals try go_wp2_with fail
       go_ret
       first|exact⟨ret_bool (zq FC).symm,B0⟩|exact⟨ret_bool (zq FC).symm,B0.trans zX⟩
    ·by_cases hN:N=0
     ·have b0:(k==0)=false:=by simp;omega
      have b1:(k==1)=true:=by simp;omega
      have bn:(N==0)=true:=by simp;omega
      cases rm with
      |false=>
       have FC:Hid (sb=false):=by show _=_;rw[zq FB];simp
       clear FB hN hk0 hk1
       go_wp2_with fail
       all_goals try go_quiet (fail)
       all_goals try go_wp2_with fail
       go_ret
       first|exact⟨ret_bool (zq FC).symm,B0⟩|exact⟨ret_bool (zq FC).symm,B0.trans zX⟩
      |true=>
       have FC:Hid (sb=true):=by show _=_;rw[zq FB];simp[hk0,hk1,hN]
       clear FB hN hk0 hk1
       go_wp2_with fail
       all_goals try go_quiet (fail)
       all_goals try go_wp2_with fail
       go_ret
       first|exact⟨ret_bool (zq FC).symm,B0⟩|exact⟨ret_bool (zq FC).symm,B0.trans zX⟩
     ·have b0:(k==0)=false:=by simp;omega
      have b1:(k==1)=true:=by simp;omega
      have bn:(N==0)=false:=by simp;omega
      cases rm with
      |false=>
       have FC:Hid (sb=false):=by show _=_;rw[zq FB];simp
       clear FB hN hk0 hk1
       go_wp2_with fail
       all_goals try go_quiet (fail)
       all_goals try go_wp2_with fail
       go_ret
       first|exact⟨ret_bool (zq FC).symm,B0⟩|exact⟨ret_bool (zq FC).symm,B0.trans zX⟩
      |true=>
       have FC:Hid (sb=false):=by show _=_;rw[zq FB];simp[hk0,hk1,hN]
       clear FB hN hk0 hk1
       go_wp2_with fail
       all_goals try go_quiet (fail)
       all_goals try go_wp2_with fail
       go_ret
       first|exact⟨ret_bool (zq FC).symm,B0⟩|exact⟨ret_bool (zq FC).symm,B0.trans zX⟩
    ·by_cases hN:N=0
     ·have b0:(k==0)=false:=by simp;omega
      have b1:(k==1)=false:=by simp;omega
      have bn:(N==0)=true:=by simp;omega
      cases rm with
      |false=>
       have FC:Hid (sb=false):=by show _=_;rw[zq FB];simp
       clear FB hN hk0 hk1
       go_wp2_with fail
       all_goals try go_quiet (fail)
       all_goals try go_wp2_with fail
       go_ret
       first|exact⟨ret_bool (zq FC).symm,B0⟩|exact⟨ret_bool (zq FC).symm,B0.trans zX⟩
      |true=>
       have FC:Hid (sb=false):=by show _=_;rw[zq FB];simp[hk0,hk1,hN]
       clear FB hN hk0 hk1
       go_wp2_with fail
       all_goals try go_quiet (fail)
       all_goals try go_wp2_with fail
       go_ret
       first|exact⟨ret_bool (zq FC).symm,B0⟩|exact⟨ret_bool (zq FC).symm,B0.trans zX⟩
     ·have b0:(k==0)=false:=by simp;omega
      have b1:(k==1)=false:=by simp;omega
      have bn:(N==0)=false:=by simp;omega
      cases rm with
      |false=>
       have FC:Hid (sb=false):=by show _=_;rw[zq FB];simp
       clear FB hN hk0 hk1
       go_wp2_with fail
       all_goals try go_quiet (fail)
       all_goals try go_wp2_with fail
       go_ret
       first|exact⟨ret_bool (zq FC).symm,B0⟩|exact⟨ret_bool (zq FC).symm,B0.trans zX⟩
      |true=>
       have FC:Hid (sb=false):=by show _=_;rw[zq FB];simp[hk0,hk1,hN]
       clear FB hN hk0 hk1
       go_wp2_with fail
       all_goals try go_quiet (fail)
       all_goals try go_wp2_with fail
       go_ret
       first|exact⟨ret_bool (zq FC).symm,B0⟩|exact⟨ret_bool (zq FC).symm,B0.trans zX⟩
end Go.Proofs.YtcblkmlcbedomaaGreatDoor.Nl
