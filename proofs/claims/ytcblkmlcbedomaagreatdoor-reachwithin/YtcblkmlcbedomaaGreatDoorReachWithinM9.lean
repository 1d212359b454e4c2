/- Parts of the proof that stand ahead of it (ReachWithin 9). -/
import Derived.Test.YtcblkmlcbedomaaGreatDoorRM10
import Derived.Test.YtcblkmlcbedomaaGreatDoorReachWithinM6
set_option linter.unusedVariables false
set_option linter.unusedSimpArgs false
set_option maxRecDepth 20000
set_option maxHeartbeats 16000000
namespace Go.Proofs.YtcblkmlcbedomaaGreatDoor.Nl
open Go.RowKit Go.Shelf Go.Proofs.YtcblkmlcbedomaaGreatDoor.T Go.Proofs.YtcblkmlcbedomaaGreatDoor.R Go.Proofs.YtcblkmlcbedomaaGreatDoor.F
/-! ### What came of flat, and what package null reads -/
theorem SyM.syl {w:World} {v:Value} {l:List SY} (h:SyM w v l) (hf:∀s∈l,yQ s.2.2):SyL w w.heap.size v l:=by
 obtain⟨a,c,e,h1,h2,h3⟩:=h
 refine⟨a,c,e,h1,h2,fun j s hj=> ?_⟩
 obtain⟨g,off,x,k,ha,hg,q0,q1,q2,-⟩:=h3 j s hj
 exact⟨hf s (List.mem_of_getElem? hj),g,off,x,_,k,ha,hg,q0,q1,q2⟩
theorem PrM.prl {w:World} {v:Value} {P:List PRD} (h:PrM w v P) (hf:∀p∈P,∀a∈p.1,∀s∈a,yQ s.2.2):PrL w w.heap.size v P:=by
 obtain⟨a,c,e,h1,h2,h3⟩:=h
 refine⟨a,c,e,h1,h2,fun j p hj=> ?_⟩
 obtain⟨g,off,u,u2,ha,hg,q0,q1,q2,hA,hN⟩:=h3 j p hj
 obtain⟨x2,k2,rfl,-⟩:=hN
 refine⟨g,off,u,_,x2,_,k2,ha,hg,q0,q1,q2,?_⟩
 obtain⟨aA,cA,eA,hA1,hA2,hA3⟩:=hA
 refine⟨aA,cA,eA,hA1,hA2,fun j' l hj'=> ?_⟩
 obtain⟨g',off',u',ha',hg',q0',hs⟩:=hA3 j' l hj'
 exact⟨g',off',u',ha',hg',q0',hs.syl (hf p (List.mem_of_getElem? hj) l (List.mem_of_getElem? hj'))⟩
def AnyB (e:Ending):Prop:=∃r,e= .returned (.bool r)
theorem anyB (r:Bool):AnyB (.returned (.bool r)):=⟨r,rfl⟩
theorem few_l (a:Option Addr) (c nK cK:Nat) (aK:Option Addr) (P:List PRD) (w:World) (h:PrL w w.heap.size (.slice a P.length c) P):
  Calls Tryz.prog 15 #[.agg #[.slice a P.length c,.slice aK nK cK]] w fun e w'=>AnyB e∧Below w.heap.size w w':=by
 obtain⟨a0,c0,e0,hc1,hc2,-⟩:=id h
 injection e0 with e1 e2 e3
 subst e1;subst e3
 unfold maxLen at hc2
 have HP:=zk h
 clear h e2
 have B1:Below w.heap.size w (w.alloc (.cells #[.slice a P.length c,.slice aK nK cK] 25)):=Below.new1 _
 have G0:=heap_alloc_new w (.cells #[.slice a P.length c,.slice aK nK cK] 25)
 by_cases h62:62<P.length
 ·have b1:decide (62<(P.length:Int))=true:=decide_eq_true (by omega)
  generalize P.length=nP at*
  clear h62 HP G0
  go_enter Tryz.func15,Tryz.ntmps15
  go_wp2_with fail
  go_ret
  exact⟨anyB _,B1⟩
 ·have b1:decide (62<(P.length:Int))=false:=decide_eq_false (by omega)
  by_cases h12:12<nK
  ·have b2:decide (12<(nK:Int))=true:=decide_eq_true (by omega)
   generalize P.length=nP at*
   clear h62 h12 HP G0
   go_enter Tryz.func15,Tryz.ntmps15
   go_wp2_with fail
   go_ret
   exact⟨anyB _,B1⟩
  ·have b2:decide (12<(nK:Int))=false:=decide_eq_false (by omega)
   clear h12
   go_enter Tryz.func15,Tryz.ntmps15
   go_wp2_with fail
   have HB1:=zk B1
   have HG0:=zk G0
   have sz:(w.alloc (.cells #[.slice a P.length c,.slice aK nK cK] 25)).heap.size=w.heap.size+1:=by simp
   clear B1 G0
   generalize (w.alloc (.cells #[.slice a P.length c,.slice aK nK cK] 25))=W1 at*
   obtain⟨y0,y1,-,-⟩:=ncells2 (zq HG0)
   go_loop [3,4] (fun n i=>∃(z:Int) (j:Nat),j≤P.length∧n= .int .i64 z∧i= .int .i64 (j:Int)) (fun _ i=>P.length-(intOf i).toNat)
   case atStart=>exact⟨0,0,Nat.zero_le _,rfl,rfl⟩
   case round=>
    obtain⟨z,j,hj,rfl,rfl⟩:=hrel
    by_cases hlt:j<P.length
    ·obtain⟨a',c',e,-,-,h3⟩:=(zq HP).later (zq HB1)
     injection e with e1 e2 e3
     subst e1;subst e3
     obtain⟨g,off,u,m,x,n',kk,rfl,hg,q0,q1,q2,hA⟩:=h3 j P[j] (by simp[hlt])
     obtain⟨aA,cA,rfl,hA1,hA2,hA3⟩:=hA
     have HA3:=zk hA3
     unfold maxLen at hA2
     have j3:j*3=3*j:=by omega
     clear h3 e2 hA3
     generalize P[j]=p at*
     go_wp2_with fail
     go_loop [3,5] (fun n i=>∃(z:Int) (k:Nat),k≤p.1.length∧n= .int .i64 z∧i= .int .i64 (k:Int)) (fun _ i=>p.1.length-(intOf i).toNat)
     case atStart=>exact⟨z,0,Nat.zero_le _,rfl,rfl⟩
     case round=>
      obtain⟨z1,k,hk,rfl,rfl⟩:=hrel
      by_cases hlt2:k<p.1.length
      ·obtain⟨g2,off2,u2,rfl,hg2,r0,hsy⟩:=zq HA3 k p.1[k] (by simp[hlt2])
       obtain⟨a5,c5,rfl,hs1,hs2,hs3⟩:=hsy
       have HS3:=zk hs3
       unfold maxLen at hs2
       clear hs3
       generalize p.1[k]=l at*
       go_wp2_with fail
       go_loop [3,6] (fun n i=>∃(z:Int) (m:Nat),m≤l.length∧n= .int .i64 z∧i= .int .i64 (m:Int)) (fun _ i=>l.length-(intOf i).toNat)
       case atStart=>exact⟨_,0,Nat.zero_le _,rfl,rfl⟩
       case round=>
        obtain⟨z2,m5,hm5,rfl,rfl⟩:=hrel
        by_cases hlt3:m5<l.length
        ·obtain⟨hf,g5,off5,x5,n5,k5,rfl,hg5,t0,t1,t2⟩:=zq HS3 m5 l[m5] (by simp[hlt3])
         have m3:m5*3=3*m5:=by omega
         by_cases hz:z2<1000
         ·go_wp2_with fail
          go_round
          case rel=>exact⟨_,m5+1,by omega,rfl,by simp⟩
          case measure=>simp[intOf];omega
         ·go_wp2_with fail
          go_round
          case rel=>exact⟨_,k+1,by omega,rfl,by simp⟩
          case measure=>simp[intOf];omega
        ·obtain rfl:m5=l.length:=by omega
         go_wp2_with fail
         go_round
         case rel=>exact⟨_,k+1,by omega,rfl,by simp⟩
         case measure=>simp[intOf];omega
      ·obtain rfl:k=p.1.length:=by omega
       go_wp2_with fail
       all_goals first
        |(go_ret;exact⟨anyB _,zq HB1⟩)
        |(go_round;(case rel=>exact⟨_,j+1,by omega,rfl,by simp⟩);(case measure=>(simp[intOf];omega)))
    ·obtain rfl:j=P.length:=by omega
     go_wp2_with fail
     go_ret
     exact⟨anyB _,zq HB1⟩
end Go.Proofs.YtcblkmlcbedomaaGreatDoor.Nl
