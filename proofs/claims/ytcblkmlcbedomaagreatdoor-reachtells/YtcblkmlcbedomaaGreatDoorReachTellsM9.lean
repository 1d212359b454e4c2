/- Parts of the proof that stand ahead of it (ReachTells 9). -/
import Derived.Deep.SlicePairs
import Derived.ProofKit
import Derived.OpenShut
import Derived.Test.YtcblkmlcbedomaaGreatDoorRM3
import Derived.Test.YtcblkmlcbedomaaGreatDoorReachTellsM1
import Derived.Lib.SmallJoins
import Derived.Test.YtcblkmlcbedomaaGreatDoorReachTellsM8
set_option linter.unusedVariables false
set_option linter.unusedSimpArgs false
set_option maxRecDepth 20000
set_option maxHeartbeats 16000000
namespace Go.Proofs.YtcblkmlcbedomaaGreatDoor
open Go.RowKit Go.Deep
theorem fits_wf {n:Int} (h:(Lit.int .i64 n).wf=true):yQ n:=by
 have:=bounds_i64 h
 unfold yQ;omega
theorem Rs.ofTrod {H:Type} {enc:TypeId×Value→H} {W:World} {base:Nat} {spare:Nat→Bool} {held:Bool} {fuel:Nat} {a:Option Addr} {len cap:Nat} {x:DataW H×List MemPlace}
  (h:DataW.trod enc Tryz.prog W base spare held fuel 39 [.slice a len cap]=some x):∃L,Rs W a len cap L:=by
 rcases open_slice_pairs Tryz.underlying39 Tryz.underlying51 (by kernel_rfl) rfl rfl (by kernel_rfl) (by kernel_rfl) h with ⟨hc,-⟩|⟨ad,l,c,m,n,V0,V1,D0,D1,P0,P1,hc,-,hl,hm,hmm,-,hall⟩
 ·simp at hc
  obtain⟨rfl,rfl,rfl⟩:=hc
  exact⟨[],Rs.nil W⟩
 ·simp at hc
  obtain⟨rfl,rfl,rfl⟩:=hc
  have hlm:len≤m:=by rw[hmm];split<;>omega
  have one:∀i,i<len→∃p q,V0 i= .int .i64 p∧V1 i= .int .i64 q∧yQ p∧yQ q:=by
   intro i hi
   obtain⟨-,-,t0,t1⟩:=hall i (by omega)
   obtain⟨p,e0,-,w0⟩:=DataW.trod_int Tryz.underlying3 t0
   obtain⟨q,e1,-,w1⟩:=DataW.trod_int Tryz.underlying3 t1
   simp at e0 e1
   exact⟨p,q,e0,e1,fits_wf w0,fits_wf w1⟩
  refine⟨(List.range len).map fun i=>(intOf (V0 i),intOf (V1 i)),by simp,hl,hm,fun r hr=> ?_,fun i hi=> ?_⟩
  ·simp only[List.mem_map,List.mem_range]at hr
   obtain⟨i,hi,rfl⟩:=hr
   obtain⟨p,q,e0,e1,f0,f1⟩:=one i hi
   rw[e0,e1];exact⟨f0,f1⟩
  ·obtain⟨p,q,e0,e1,f0,f1⟩:=one i hi
   obtain⟨c0,c1,-,-⟩:=hall i (by omega)
   obtain⟨b,off,spot⟩:=ad
   have hspot:spot=none:=by simpa [Addr.add] using World.cell?_spot (hall 0 (by omega)).1
   subst hspot
   rw[Addr.add_lit]at c0 c1
   have eL:((List.range len).map fun i=>(intOf (V0 i),intOf (V1 i))).getD i (0,0)=(intOf (V0 i),intOf (V1 i)):=by simp[List.getD,hi]
   rw[eL]
   refine⟨b,off,rfl,?_,?_⟩
   ·rw[c0,e0];rfl
   ·rw[←Nat.add_assoc]at c1;rw[c1,e1];rfl
end Go.Proofs.YtcblkmlcbedomaaGreatDoor
set_option linter.unusedVariables false
set_option linter.unusedSimpArgs false
set_option maxRecDepth 20000
set_option maxHeartbeats 16000000
namespace Go.Proofs.YtcblkmlcbedomaaGreatDoor.Nl
open Go.ChangeShapes Go.WideShapes Go.RowKit Go.Deep Go.Joins Go.Proofs.YtcblkmlcbedomaaGreatDoor.F
section
variable {H:Type} {enc:TypeId×Value→H} {P:Program} {w:World} {base:Nat} {spare:Nat→Bool} {held:Bool}
theorem open_trips {t e:TypeId} {f0 f1 f2:Field} {fuel:Nat} {cs:List Value} {x:DataW H×List MemPlace} (ht:P.underlying t=some (.slice e)) (he:P.underlying e=some (.struct #[f0,f1,f2]))
  (ce:P.cellsOf e=3) (o0:f0.offset=0) (o1:f1.offset=1) (o2:f2.offset=2) (c0:P.cellsOf f0.type=1) (c1:P.cellsOf f1.type=1) (c2:P.cellsOf f2.type=1)
  (h:DataW.trod enc P w base spare held fuel t cs=some x):
  cs=[.slice none 0 0]∨∃(a:Addr) (len cap n:Nat),cs=[.slice (some a) len cap]∧len≤cap∧cap≤maxLen∧
   ∀i,i<len→∃v0 v1 v2 y0 y1 y2,w.cell? (a.add (i*3))=some v0∧w.cell? (a.add (i*3+1))=some v1∧w.cell? (a.add (i*3+2))=some v2∧
    DataW.trod enc P w base spare held n f0.type [v0]=some y0∧DataW.trod enc P w base spare held n f1.type [v1]=some y1∧DataW.trod enc P w base spare held n f2.type [v2]=some y2:=by
 rcases open_slice ht h with ⟨h0,-⟩|⟨a,len,cap,m,n,D,Pl,rfl,hb,hl,hm,hmm,rfl,hx⟩
 ·exact Or.inl h0
 right
 have hlm:len≤m:=by rw[hmm];split<;>omega
 refine⟨a,len,cap,n-1,rfl,hl,hm,fun i hi=> ?_⟩
 obtain⟨cs',h1,h2⟩:=hx i (by omega)
 rw[ce]at h1
 obtain⟨_,hlen,hcell⟩:=World.cells?_some h1
 obtain⟨xs,k,hk,hxy,_,hxl,hf⟩:=DataW.trod_struct he h2
 have hk':k=n-1:=by omega
 subst hk'
 match xs,hxl,cs',hlen with
 | [y0,y1,y2],_,[v0,v1,v2],_=>
  have g0:=hf 0 f0 rfl
  have g1:=hf 1 f1 rfl
  have g2:=hf 2 f2 rfl
  simp[o0,o1,o2,c0,c1,c2]at g0 g1 g2
  have e0:=hcell 0 (by omega)
  have e1:=hcell 1 (by omega)
  have e2:=hcell 2 (by omega)
  rw[add_add]at e0 e1 e2
  exact⟨v0,v1,v2,y0,y1,y2,by simpa using e0,by simpa using e1,by simpa using e2,g0,g1,g2⟩
theorem open_ones {t e:TypeId} {fuel:Nat} {cs:List Value} {x:DataW H×List MemPlace} (ht:P.underlying t=some (.slice e)) (ce:P.cellsOf e=1)
  (h:DataW.trod enc P w base spare held fuel t cs=some x):
  cs=[.slice none 0 0]∨∃(a:Addr) (len cap n:Nat),cs=[.slice (some a) len cap]∧len≤cap∧cap≤maxLen∧
   ∀i,i<len→∃v0 y0,w.cell? (a.add i)=some v0∧DataW.trod enc P w base spare held n e [v0]=some y0:=by
 rcases open_slice ht h with ⟨h0,-⟩|⟨a,len,cap,m,n,D,Pl,rfl,hb,hl,hm,hmm,rfl,hx⟩
 ·exact Or.inl h0
 right
 have hlm:len≤m:=by rw[hmm];split<;>omega
 refine⟨a,len,cap,n,rfl,hl,hm,fun i hi=> ?_⟩
 obtain⟨cs',h1,h2⟩:=hx i (by omega)
 rw[ce]at h1
 obtain⟨_,hlen,hcell⟩:=World.cells?_some h1
 match cs',hlen with
 | [v0],_=>
  have e0:=hcell 0 (by omega)
  rw[add_add]at e0
  exact⟨v0,_,by simpa using e0,h2⟩
theorem spot_none {a:Addr} {v:Value} (h:w.cell? (a.add 0)=some v):∃b off,a=⟨b,off,none⟩:=by
 obtain⟨b,off,spot⟩:=a
 have:spot=none:=by simpa [Addr.add] using World.cell?_spot h
 exact⟨b,off,by rw[this]⟩
end
theorem list_of {α:Type} {Q:Nat→α→Prop}:∀n,(∀i,i<n→∃s,Q i s)→∃l:List α,l.length=n∧∀j s,l[j]? =some s→Q j s:=by
 intro n
 induction n with
 |zero=>intro _;exact⟨[],rfl,fun j s h=>by simp at h⟩
 |succ n ih=>
  intro h
  obtain⟨l,hl,hq⟩:=ih fun i hi=>h i (by omega)
  obtain⟨s,hs⟩:=h n (by omega)
  refine⟨l++[s],by simp[hl],fun j t hj=> ?_⟩
  by_cases hj2:j<l.length
  ·rw[List.getElem?_append_left hj2]at hj;exact hq j t hj
  ·have hjn:j=n:=by
    have:=(List.getElem?_eq_some_iff.1 hj).1
    simp at this;omega
   subst hjn
   rw[List.getElem?_append_right (by omega),hl]at hj
   simp at hj
   subst hj;exact hs
section
variable {H:Type} {enc:TypeId×Value→H} {W:World} {base:Nat} {spare:Nat→Bool} {held:Bool} {fuel:Nat}
theorem syms_trod {v:Value} {x:DataW H×List MemPlace} (h:DataW.trod enc Tryz.prog W base spare held fuel 44 [v]=some x):∃l,SyM W v l∧∀s∈l,yQ s.2.2:=by
 rcases open_trips Tryz.underlying44 Tryz.underlying43 (by kernel_rfl) rfl rfl rfl (by kernel_rfl) (by kernel_rfl) (by kernel_rfl) h with h0|⟨a,len,cap,n,h0,hl,hm,hall⟩
 ·simp at h0
  subst h0
  exact⟨[],⟨none,0,rfl,Nat.le_refl _,Nat.zero_le _,fun j s hj=>by simp at hj⟩,fun s hs=>by simp at hs⟩
 ·simp at h0
  subst h0
  obtain⟨l,hll,hq⟩:=list_of (α:=SY) (Q:=fun i s=>yQ s.2.2∧∃x k,W.cell? (a.add (i*3))=some (.int .i64 s.1)∧W.cell? (a.add (i*3+1))=some (.slice x s.2.1.length k)∧W.cell? (a.add (i*3+2))=some (.int .i64 s.2.2)∧Rs W x s.2.1.length k s.2.1) len fun i hi=>by
   obtain⟨v0,v1,v2,y0,y1,y2,q0,q1,q2,t0,t1,t2⟩:=hall i hi
   obtain⟨p,e0,-,w0⟩:=DataW.trod_int Tryz.underlying3 t0
   obtain⟨z,e2,-,w2⟩:=DataW.trod_int Tryz.underlying3 t2
   obtain⟨b,m,c,e1⟩:=slice_form Tryz.underlying39 t1
   simp only[List.cons.injEq,and_true]at e0 e1 e2
   subst e0;subst e1;subst e2
   obtain⟨R,hR⟩:=Rs.ofTrod t1
   obtain rfl:=hR.hlen
   exact⟨(p,R,z),fits_wf w2,b,c,q0,q1,q2,hR⟩
  refine⟨l,⟨some a,cap,by rw[hll],by omega,hm,fun j s hj=> ?_⟩,fun s hs=> ?_⟩
  ·obtain⟨-,y,k,q0,q1,q2,hR⟩:=hq j s hj
   obtain⟨-,-,-,q00,-⟩:=hq 0 _ (List.getElem?_eq_getElem (Nat.lt_of_le_of_lt (Nat.zero_le _) (List.getElem?_eq_some_iff.1 hj).1))
   rw[Nat.zero_mul]at q00
   obtain⟨b,off,rfl⟩:=spot_none q00
   rw[Addr.add_lit]at q0 q1 q2
   rw[Nat.mul_comm]at q0 q1 q2
   exact⟨b,off,y,k,rfl,zJ q0,q0,by rw[Nat.add_assoc];exact q1,by rw[Nat.add_assoc];exact q2,hR⟩
  ·obtain⟨j,hj⟩:=List.mem_iff_getElem?.1 hs
   exact(hq j s hj).1
theorem alts_trod {v:Value} {x:DataW H×List MemPlace} (h:DataW.trod enc Tryz.prog W base spare held fuel 38 [v]=some x):∃A,AltM W v A∧∀l∈A,∀s∈l,yQ s.2.2:=by
 rcases open_ones Tryz.underlying38 (by kernel_rfl) h with h0|⟨a,len,cap,n,h0,hl,hm,hall⟩
 ·simp at h0
  subst h0
  exact⟨[],⟨none,0,rfl,Nat.le_refl _,Nat.zero_le _,fun j s hj=>by simp at hj⟩,fun s hs=>by simp at hs⟩
 ·simp at h0
  subst h0
  obtain⟨A,hll,hq⟩:=list_of (α:=List SY) (Q:=fun i l=>(∀s∈l,yQ s.2.2)∧∃u,W.cell? (a.add i)=some u∧SyM W u l) len fun i hi=>by
   obtain⟨u,y,q0,t0⟩:=hall i hi
   obtain⟨l,hs,hf⟩:=syms_trod t0
   exact⟨l,hf,u,q0,hs⟩
  refine⟨A,⟨some a,cap,by rw[hll],by omega,hm,fun j l hj=> ?_⟩,fun l hs=> ?_⟩
  ·obtain⟨-,u,q0,hs⟩:=hq j l hj
   obtain⟨-,u00,q00,-⟩:=hq 0 _ (List.getElem?_eq_getElem (Nat.lt_of_le_of_lt (Nat.zero_le _) (List.getElem?_eq_some_iff.1 hj).1))
   obtain⟨b,off,rfl⟩:=spot_none q00
   rw[Addr.add_lit]at q0
   exact⟨b,off,u,rfl,zJ q0,q0,hs⟩
  ·obtain⟨j,hj⟩:=List.mem_iff_getElem?.1 hs
   exact(hq j l hj).1
theorem prods_trod {v:Value} {x:DataW H×List MemPlace} (h:DataW.trod enc Tryz.prog W base spare held fuel 22 [v]=some x):∃P,PrM W v P∧∀p∈P,∀l∈p.1,∀s∈l,yQ s.2.2:=by
 rcases open_trips Tryz.underlying22 Tryz.underlying41 (by kernel_rfl) rfl rfl rfl (by kernel_rfl) (by kernel_rfl) (by kernel_rfl) h with h0|⟨a,len,cap,n,h0,hl,hm,hall⟩
 ·simp at h0
  subst h0
  exact⟨[],⟨none,0,rfl,Nat.le_refl _,Nat.zero_le _,fun j s hj=>by simp at hj⟩,fun s hs=>by simp at hs⟩
 ·simp at h0
  subst h0
  obtain⟨P,hll,hq⟩:=list_of (α:=PRD) (Q:=fun i p=>(∀l∈p.1,∀s∈l,yQ s.2.2)∧∃u u2,W.cell? (a.add (i*3))=some u∧W.cell? (a.add (i*3+1))=some (.int .i64 p.2.1)∧W.cell? (a.add (i*3+2))=some u2∧AltM W u p.1∧NotM W u2 p.2.2) len fun i hi=>by
   obtain⟨v0,v1,v2,y0,y1,y2,q0,q1,q2,t0,t1,t2⟩:=hall i hi
   obtain⟨A,hA,hf⟩:=alts_trod t0
   obtain⟨p,e1,-,w1⟩:=DataW.trod_int Tryz.underlying3 t1
   obtain⟨b,m,c,e2⟩:=slice_form Tryz.underlying39 t2
   simp only[List.cons.injEq,and_true]at e1 e2
   subst e1;subst e2
   obtain⟨R,hR⟩:=Rs.ofTrod t2
   obtain rfl:=hR.hlen
   exact⟨(A,p,R),hf,v0,_,q0,q1,q2,hA,b,c,rfl,hR⟩
  refine⟨P,⟨some a,cap,by rw[hll],by omega,hm,fun j p hj=> ?_⟩,fun p hs=> ?_⟩
  ·obtain⟨-,u,u2,q0,q1,q2,hA,hN⟩:=hq j p hj
   obtain⟨-,u00,u01,q00,-⟩:=hq 0 _ (List.getElem?_eq_getElem (Nat.lt_of_le_of_lt (Nat.zero_le _) (List.getElem?_eq_some_iff.1 hj).1))
   rw[Nat.zero_mul]at q00
   obtain⟨b,off,rfl⟩:=spot_none q00
   rw[Addr.add_lit]at q0 q1 q2
   rw[Nat.mul_comm]at q0 q1 q2
   exact⟨b,off,u,u2,rfl,zJ q0,q0,by rw[Nat.add_assoc];exact q1,by rw[Nat.add_assoc];exact q2,hA,hN⟩
  ·obtain⟨j,hj⟩:=List.mem_iff_getElem?.1 hs
   exact(hq j p hj).1
end
theorem gram_trod {H:Type} {enc:TypeId×Value→H} {W:World} {r:Reach} {b0 base:Nat} {spare:Nat→Bool} {held:Bool} {v:Value} {d:DataW H} {p:List MemPlace}
  (hv:Value.okWide Tryz.prog W r b0 25 v) (h:DataW.Trod enc Tryz.prog W base spare held 25 v d p):
  ∃g:GR,GrM W v g∧∀p∈g.1,∀l∈p.1,∀s∈l,yQ s.2.2:=by
 obtain⟨v0,v1,y0,y1,m,rfl,-,-,h0,h1⟩:=open_agg2 Tryz.underlying25 (by kernel_rfl) (by kernel_rfl) hv h
 obtain⟨P,hP,hf⟩:=prods_trod h0
 obtain⟨a,c,rfl,hp⟩:=id hP
 rcases open_ones Tryz.underlying23 (by kernel_rfl) h1 with e|⟨a1,len,cap,n,e,hl,hm,-⟩
 ·simp at e
  subst e
  exact⟨(P,[]),⟨a,c,none,0,rfl,hP,Nat.le_refl _,Nat.zero_le _⟩,hf⟩
 ·simp at e
  subst e
  exact⟨(P,List.replicate len []),⟨a,c,some a1,cap,by simp,hP,by simpa using hl,hm⟩,hf⟩
end Go.Proofs.YtcblkmlcbedomaaGreatDoor.Nl
