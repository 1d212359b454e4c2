/- Parts of the proof that stand ahead of it (ReachWithin 6). -/
import Derived.Test.YtcblkmlcbedomaaGreatDoorRM2
import Derived.Test.YtcblkmlcbedomaaGreatDoorRM6
import Derived.Test.YtcblkmlcbedomaaGreatDoorRM7
set_option linter.unusedVariables false
set_option linter.unusedSimpArgs false
set_option maxRecDepth 20000
set_option maxHeartbeats 16000000
namespace Go.Proofs.YtcblkmlcbedomaaGreatDoor.Nl
open Go.Proofs.YtcblkmlcbedomaaGreatDoor.F
def LeB (is js:List Bool):Prop:=∀i:Nat,is.getD i false=true→js.getD i false=true
theorem nulS_iff {is:List Bool} {s:SY}:nulS is s=true↔s.1=2∧0≤s.2.2∧is.getD s.2.2.toNat false=true:=by
 unfold nulS;simp only[Bool.and_eq_true,decide_eq_true_eq]
theorem nulA_iff {is:List Bool} {l:List SY}:nulA is l=true↔∀s∈l,nulS is s=true:=by
 unfold nulA;exact List.all_eq_true
theorem nulA_mono {is js:List Bool} (h:LeB is js) {l:List SY} (hl:nulA is l=true):nulA js l=true:=by
 rw[nulA_iff]at hl⊢
 intro s hs
 have:=hl s hs
 rw[nulS_iff]at this⊢
 exact⟨this.1,this.2.1,h _ this.2.2⟩
theorem step_len (P:List PRD) (is:List Bool):(stepL P is).length=P.length:=by simp[stepL]
theorem it_len (P:List PRD) (k:Nat):(itL P k).length=P.length:=by
 cases k with
 |zero=>simp[itL]
 |succ k=>exact step_len _ _
theorem step_at {P:List PRD} {is:List Bool} {i:Nat}:(stepL P is).getD i false=true↔∃p a,P[i]? =some p∧a∈p.1∧nulA is a=true:=by
 unfold stepL
 rw[List.getD_eq_getElem?_getD,List.getElem?_map]
 cases h:P[i]? with
 |none=>simp
 |some p=>simp
theorem step_mono {P:List PRD} {is js:List Bool} (h:LeB is js):LeB (stepL P is) (stepL P js):=by
 intro i hi
 rw[step_at]at hi⊢
 obtain⟨p,a,h1,h2,h3⟩:=hi
 exact⟨p,a,h1,h2,nulA_mono h h3⟩
theorem it_up (P:List PRD):∀k,LeB (itL P k) (itL P (k+1)):=by
 intro k
 induction k with
 |zero=>
  intro i hi
  simp only[itL,List.getD_eq_getElem?_getD,List.getElem?_replicate]at hi
  split at hi<;>simp at hi
 |succ k ih=>exact step_mono ih
def cntB (l:List Bool):Nat:=l.countP id
theorem cnt_le (l:List Bool):cntB l≤l.length:=List.countP_le_length
theorem cnt_lt:∀(is js:List Bool),is.length=js.length→LeB is js→is=js∨cntB is<cntB js:=by
 intro is
 induction is with
 |nil=>intro js h _;left;cases js with
  |nil=>rfl
  |cons=>simp at h
 |cons x is ih=>
  intro js h hl
  cases js with
  |nil=>simp at h
  |cons y js=>
   have h0:=hl 0
   have hr:LeB is js:=fun i hi=>by have:=hl (i+1);simpa using this (by simpa using hi)
   have hx:cntB (x::is)=cntB is+(if x then 1 else 0):=by unfold cntB;rw[List.countP_cons];rfl
   have hy:cntB (y::js)=cntB js+(if y then 1 else 0):=by unfold cntB;rw[List.countP_cons];rfl
   rcases ih js (by simpa using h) hr with e|e
   ·subst e
    cases x<;>cases y<;>simp at h0 hx hy⊢<;>omega
   ·right
    cases x<;>cases y<;>simp at h0 hx hy⊢<;>omega
theorem it_fix (P:List PRD):∀k,(∃j,j<k∧itL P (j+1)=itL P j)∨k≤cntB (itL P k):=by
 intro k
 induction k with
 |zero=>right;exact Nat.zero_le _
 |succ k ih=>
  rcases ih with ⟨j,hj,e⟩|h
  ·exact .inl ⟨j,by omega,e⟩
  ·rcases cnt_lt (itL P k) (itL P (k+1)) (by rw[it_len,it_len]) (it_up P k)with e|e
   ·exact .inl ⟨k,by omega,e.symm⟩
   ·right;omega
theorem it_stay {P:List PRD} {j:Nat} (h:itL P (j+1)=itL P j):∀k,itL P (j+k)=itL P j:=by
 intro k
 induction k with
 |zero=>rfl
 |succ k ih=>
  show stepL P (itL P (j+k))=_
  rw[ih];exact h
theorem nu_fix (P:List PRD):stepL P (nuL P)=nuL P:=by
 obtain⟨j,hj,e⟩:∃j,j≤P.length∧itL P (j+1)=itL P j:=by
  rcases it_fix P (P.length+1)with ⟨j,hj,e⟩|h
  ·exact⟨j,by omega,e⟩
  ·have:=cnt_le (itL P (P.length+1));rw[it_len]at this;omega
 have h1:=it_stay e (P.length-j)
 have h2:=it_stay e (P.length+1-j)
 rw[show j+(P.length-j)=P.length by omega]at h1
 rw[show j+(P.length+1-j)=P.length+1 by omega]at h2
 show itL P (P.length+1)=itL P P.length
 rw[h1,h2]
def isN (P:List PRD) (i:Int):Prop:=0≤i∧(nuL P).getD i.toNat false=true
theorem nulS_nu {P:List PRD} {s:SY}:nulS (nuL P) s=true↔s.1=2∧isN P s.2.2:=nulS_iff
theorem nu_closed {P:List PRD} {i:Nat} {p:PRD} {a:List SY} (hp:P[i]? =some p) (ha:a∈p.1) (h:∀s∈a,s.1=2∧isN P s.2.2):isN P (i:Int):=by
 refine⟨by omega,?_⟩
 rw[Int.toNat_natCast,←nu_fix]
 exact step_at.2 ⟨p,a,hp,ha,nulA_iff.2 fun s hs=>nulS_nu.2 (h s hs)⟩
theorem nu_least {P:List PRD} (C:Int→Prop) (hC:∀(i:Nat) (p:PRD) (a:List SY),P[i]? =some p→a∈p.1→(∀s∈a,s.1=2∧C s.2.2)→C (i:Int)):∀i,isN P i→C i:=by
 have key:∀k (i:Nat),(itL P k).getD i false=true→C (i:Int):=by
  intro k
  induction k with
  |zero=>
   intro i hi
   simp only[itL,List.getD_eq_getElem?_getD,List.getElem?_replicate]at hi
   split at hi<;>simp at hi
  |succ k ih=>
   intro i hi
   obtain⟨p,a,h1,h2,h3⟩:=step_at.1 hi
   refine hC i p a h1 h2 fun s hs=> ?_
   have:=nulS_iff.1 (nulA_iff.1 h3 s hs)
   refine⟨this.1,?_⟩
   have:=ih _ this.2.2
   rwa [Int.toNat_of_nonneg (by omega)]at this
 intro i hi
 have:=key _ _ hi.2
 rwa [Int.toNat_of_nonneg hi.1]at this
/-! ### What is found, as it is known -/
def inE (E:List Int) (s:SY):Bool:=decide (s.1=2)&&decide (s.2.2∈E)
theorem inE_iff {E:List Int} {s:SY}:inE E s=true↔s.1=2∧s.2.2∈E:=by unfold inE;simp only[Bool.and_eq_true,decide_eq_true_eq]
def behE (E:List Int):List SY→List SY
 | []=> []
 |s::l=>if inE E s=true then behE E l else s::l
theorem beh_drop (E:List Int):∀l:List SY,∃k,k≤l.length∧behE E l=l.drop k∧∀s∈l.take k,inE E s=true:=by
 intro l
 induction l with
 |nil=>exact⟨0,Nat.le_refl _,rfl,fun s hs=>by simp at hs⟩
 |cons x l ih=>
  unfold behE
  by_cases h:inE E x=true
  ·rw[if_pos h]
   obtain⟨k,hk,e,ha⟩:=ih
   refine⟨k+1,by simp;omega,by simpa using e,fun s hs=> ?_⟩
   simp at hs
   rcases hs with rfl|hs
   ·exact h
   ·exact ha s hs
  ·rw[if_neg h]
   exact⟨0,Nat.zero_le _,rfl,fun s hs=>by simp at hs⟩
theorem beh_head {E:List Int}:∀{l:List SY} {s:SY} {t:List SY},behE E l=s::t→inE E s=false:=by
 intro l
 induction l with
 |nil=>intro s t h;cases h
 |cons x l ih=>
  intro s t h
  unfold behE at h
  by_cases hx:inE E x=true
  ·rw[if_pos hx]at h;exact ih h
  ·rw[if_neg hx]at h
   injection h with h1 h2
   subst h1
   simpa using hx
theorem beh_nil {E:List Int}:∀{l:List SY},behE E l=[]↔∀s∈l,inE E s=true:=by
 intro l
 induction l with
 |nil=>simp[behE]
 |cons x l ih=>
  unfold behE
  by_cases hx:inE E x=true
  ·rw[if_pos hx,ih];simp[hx]
  ·rw[if_neg hx];simp[hx]
def lefE (E:List Int):List SY→List Int
 | []=> []
 |s::l=>if s.1=2 then s.2.2::(if s.2.2∈E then lefE E l else [])else []
def restsOf:List PRD→Int→List RS
 | [],_=> []
 |p::l,n=>p.1.map (fun a=>(n,a))++restsOf l (n+1)
def Rest (P:List PRD) (E:List Int) (r:RS):Prop:=∃(i:Nat) (p:PRD) (pre:List SY),r.1=(i:Int)∧P[i]? =some p∧pre++r.2∈p.1∧∀s∈pre,inE E s=true
theorem inE_mono {E:List Int} (x:Int) {s:SY} (h:inE E s=true):inE (E++[x]) s=true:=by
 rw[inE_iff]at h⊢;exact⟨h.1,List.mem_append_left _ h.2⟩
theorem Rest.more {P:List PRD} {E:List Int} {r:RS} (h:Rest P E r) (x:Int):Rest P (E++[x]) r:=by
 obtain⟨i,p,pre,h1,h2,h3,h4⟩:=h
 exact⟨i,p,pre,h1,h2,h3,fun s hs=>inE_mono x (h4 s hs)⟩
theorem Rest.beh {P:List PRD} {E:List Int} {r:RS} (h:Rest P E r):Rest P E (r.1,behE E r.2):=by
 obtain⟨i,p,pre,h1,h2,h3,h4⟩:=h
 obtain⟨k,hk,e,ha⟩:=beh_drop E r.2
 refine⟨i,p,pre++r.2.take k,h1,h2,?_,fun s hs=> ?_⟩
 ·show pre++r.2.take k++behE E r.2∈p.1
  rw[e,List.append_assoc,List.take_append_drop];exact h3
 ·rcases List.mem_append.1 hs with hs|hs
  ·exact h4 s hs
  ·exact ha s hs
def Done (P:List PRD) (E:List Int) (next:List RS) (wait:Int→List RS) (i:Nat) (a:List SY):Prop:=
 (i:Int)∈E∨(∃pre left,a=pre++left∧(∀s∈pre,inE E s=true)∧((i:Int),left)∈next)∨
  (∃pre s left,a=pre++s::left∧(∀s∈pre,inE E s=true)∧(s.1=2→s.2.2∉E∧((i:Int),s::left)∈wait s.2.2))
structure Fd (P:List PRD) (E:List Int) (next:List RS) (wait:Int→List RS):Prop where
 nx:∀r∈next,Rest P E r
 wt:∀m,∀r∈wait m,Rest P E r
 tr:∀x∈E,isN P x
 dn:∀(i:Nat) (p:PRD) (a:List SY),P[i]? =some p→a∈p.1→Done P E next wait i a
def setW (wait:Int→List RS) (m:Int) (l:List RS):Int→List RS:=fun x=>if x=m then l else wait x
theorem Fd.tru {P:List PRD} {E:List Int} {next:List RS} {wait:Int→List RS} (h:Fd P E next wait) {s:SY} (hs:inE E s=true):s.1=2∧isN P s.2.2:=by
 rw[inE_iff]at hs;exact⟨hs.1,h.tr _ hs.2⟩
theorem Fd.known {P:List PRD} {E:List Int} {next:List RS} {wait:Int→List RS} {r:RS} (h:Fd P E (next++[r]) wait) (hr:r.1∈E):Fd P E next wait:=by
 refine⟨fun x hx=>h.nx x (List.mem_append_left _ hx),h.wt,h.tr,fun i p a hp ha=> ?_⟩
 rcases h.dn i p a hp ha with h1|⟨pre,left,e,h1,h2⟩|h1
 ·exact .inl h1
 ·rcases List.mem_append.1 h2 with h2|h2
  ·exact .inr (.inl ⟨pre,left,e,h1,h2⟩)
  ·simp at h2
   refine .inl ?_
   rw[←h2]at hr;exact hr
 ·exact .inr (.inr h1)
theorem Fd.found {P:List PRD} {E:List Int} {next:List RS} {wait:Int→List RS} {r:RS} (h:Fd P E (next++[r]) wait) (hr:behE E r.2=[]):isN P r.1:=by
 obtain⟨i,p,pre,h1,h2,h3,h4⟩:=h.nx r (by simp)
 rw[h1]
 refine nu_closed h2 h3 fun s hs=> ?_
 rcases List.mem_append.1 hs with hs|hs
 ·exact h.tru (h4 s hs)
 ·exact h.tru (beh_nil.1 hr s hs)
theorem Fd.put {P:List PRD} {E:List Int} {next:List RS} {wait:Int→List RS} {r:RS} (h:Fd P E (next++[r]) wait) (hr:behE E r.2=[]):Fd P (E++[r.1]) (next++wait r.1) wait:=by
 have hn:=h.found hr
 refine⟨fun x hx=> ?_,fun m x hx=>(h.wt m x hx).more _,fun x hx=> ?_,fun i p a hp ha=> ?_⟩
 ·rcases List.mem_append.1 hx with hx|hx
  ·exact(h.nx x (List.mem_append_left _ hx)).more _
  ·exact(h.wt _ x hx).more _
 ·rcases List.mem_append.1 hx with hx|hx
  ·exact h.tr x hx
  ·simp at hx;subst hx;exact hn
 ·rcases h.dn i p a hp ha with h1|⟨pre,left,e,h1,h2⟩|⟨pre,s,left,e,h0,h1⟩
  ·exact .inl (List.mem_append_left _ h1)
  ·rcases List.mem_append.1 h2 with h2|h2
   ·exact .inr (.inl ⟨pre,left,e,fun s hs=>inE_mono _ (h1 s hs),List.mem_append_left _ h2⟩)
   ·simp at h2
    refine .inl (List.mem_append_right _ ?_)
    rw[←h2];simp
  ·have h0':∀s∈pre,inE (E++[r.1]) s=true:=fun s hs=>inE_mono _ (h0 s hs)
   by_cases hs:s.1=2
   ·obtain⟨h2,h3⟩:=h1 hs
    by_cases hx:s.2.2=r.1
    ·exact .inr (.inl ⟨pre,s::left,e,h0',List.mem_append_right _ (by rw[←hx];exact h3)⟩)
    ·refine .inr (.inr ⟨pre,s,left,e,h0',fun _=>⟨fun c=> ?_,h3⟩⟩)
     rcases List.mem_append.1 c with c|c
     ·exact h2 c
     ·simp at c;exact hx c
   ·exact .inr (.inr ⟨pre,s,left,e,h0',fun c=>absurd c hs⟩)
theorem Fd.stop {P:List PRD} {E:List Int} {next:List RS} {wait:Int→List RS} {r:RS} {s:SY} {t:List SY} (h:Fd P E (next++[r]) wait) (hr:behE E r.2=s::t) (hs:s.1≠2):Fd P E next wait:=by
 refine⟨fun x hx=>h.nx x (List.mem_append_left _ hx),h.wt,h.tr,fun i p a hp ha=> ?_⟩
 rcases h.dn i p a hp ha with h1|⟨pre,left,e,h1,h2⟩|h1
 ·exact .inl h1
 ·rcases List.mem_append.1 h2 with h2|h2
  ·exact .inr (.inl ⟨pre,left,e,h1,h2⟩)
  ·simp at h2
   obtain⟨k,hk,e2,hb⟩:=beh_drop E left
   have e3:behE E left=s::t:=by rw[←hr,←h2]
   refine .inr (.inr ⟨pre++left.take k,s,t,?_,fun x hx=> ?_,fun c=>absurd c hs⟩)
   ·rw[List.append_assoc,←e3,e2,List.take_append_drop];exact e
   ·rcases List.mem_append.1 hx with hx|hx
    ·exact h1 x hx
    ·exact hb x hx
 ·exact .inr (.inr h1)
theorem Fd.wait {P:List PRD} {E:List Int} {next:List RS} {wait:Int→List RS} {r:RS} {s:SY} {t:List SY} (h:Fd P E (next++[r]) wait) (hr:behE E r.2=s::t) (hs:s.1=2):Fd P E next (setW wait s.2.2 (wait s.2.2++[(r.1,behE E r.2)])):=by
 have hE:s.2.2∉E:=fun c=>by
  have:=beh_head hr
  rw[inE_iff.2 ⟨hs,c⟩]at this;cases this
 refine⟨fun x hx=>h.nx x (List.mem_append_left _ hx),fun m x hx=> ?_,h.tr,fun i p a hp ha=> ?_⟩
 ·unfold setW at hx
  split at hx
  ·rcases List.mem_append.1 hx with hx|hx
   ·exact h.wt _ x hx
   ·simp at hx;subst hx;exact(h.nx r (by simp)).beh
  ·exact h.wt m x hx
 ·rcases h.dn i p a hp ha with h1|⟨pre,left,e,h1,h2⟩|⟨pre,s',left,e,h0,h1⟩
  ·exact .inl h1
  ·rcases List.mem_append.1 h2 with h2|h2
   ·exact .inr (.inl ⟨pre,left,e,h1,h2⟩)
   ·simp at h2
    obtain⟨k,hk,e2,hb⟩:=beh_drop E left
    have e3:behE E left=s::t:=by rw[←hr,←h2]
    refine .inr (.inr ⟨pre++left.take k,s,t,?_,fun x hx=> ?_,fun _=>⟨hE,?_⟩⟩)
    ·rw[List.append_assoc,←e3,e2,List.take_append_drop];exact e
    ·rcases List.mem_append.1 hx with hx|hx
     ·exact h1 x hx
     ·exact hb x hx
    ·unfold setW
     rw[if_pos rfl,←h2]
     exact List.mem_append_right _ (by simp[e3])
  ·refine .inr (.inr ⟨pre,s',left,e,h0,fun c=> ?_⟩)
   obtain⟨g1,g2⟩:=h1 c
   refine⟨g1,?_⟩
   unfold setW
   split
   ·rename_i hx
    rw[hx]at g2
    exact List.mem_append_left _ g2
   ·exact g2
theorem Fd.done {P:List PRD} {E:List Int} {wait:Int→List RS} (h:Fd P E [] wait) (x:Int):x∈E↔isN P x:=by
 refine⟨h.tr x,nu_least (fun i=>i∈E) (fun i p a hp ha hs=> ?_) x⟩
 rcases h.dn i p a hp ha with h1|⟨pre,left,e,h1,h2⟩|⟨pre,s,left,e,h0,h1⟩
 ·exact h1
 ·simp at h2
 ·have:=hs s (by rw[e];simp)
  exact absurd this.2 (h1 this.1).1
theorem rests_mem:∀(P:List PRD) (n:Nat) (r:RS),r∈restsOf P (n:Int)↔∃(i:Nat) (p:PRD),P[i]? =some p∧r.1=((n+i:Nat):Int)∧r.2∈p.1:=by
 intro P
 induction P with
 |nil=>intro n r;simp[restsOf]
 |cons p P ih=>
  intro n r
  unfold restsOf
  rw[List.mem_append,show(n:Int)+1=((n+1:Nat):Int) by omega,ih]
  constructor
  ·rintro(h|⟨i,q,h1,h2,h3⟩)
   ·obtain⟨a,ha,rfl⟩:=List.mem_map.1 h
    exact⟨0,p,rfl,rfl,ha⟩
   ·exact⟨i+1,q,by simpa using h1,by rw[h2];congr 1;omega,h3⟩
  ·rintro⟨i,q,h1,h2,h3⟩
   cases i with
   |zero=>
    simp at h1;subst h1
    exact .inl (List.mem_map.2 ⟨r.2,h3,by rw[Nat.add_zero]at h2;rw[←h2]⟩)
   |succ i=>exact .inr ⟨i,q,by simpa using h1,by rw[h2];congr 1;omega,h3⟩
theorem Fd.start (P:List PRD):Fd P [] (restsOf P 0) (fun _=> []):=by
 refine⟨fun r hr=> ?_,fun m r hr=>(by cases hr),fun x hx=>(by cases hx),fun i p a hp ha=> ?_⟩
 ·obtain⟨i,p,h1,h2,h3⟩:=(rests_mem P 0 r).1 hr
  exact⟨i,p,[],by rw[h2];congr 1;omega,h1,h3,fun s hs=>by cases hs⟩
 ·refine .inr (.inl ⟨[],a,rfl,fun s hs=>(by cases hs),(rests_mem P 0 _).2 ⟨i,p,hp,?_,ha⟩⟩)
  simp
theorem rests_len (P:List PRD) (k:Nat) (h:∀p∈P,p.1.length≤k):∀n,(restsOf P n).length≤k*P.length:=by
 induction P with
 |nil=>intro n;simp[restsOf]
 |cons p P ih=>
  intro n
  have h1:=ih (fun q hq=>h q (List.mem_cons_of_mem _ hq)) (n+1)
  have h2:=h p List.mem_cons_self
  unfold restsOf
  rw[List.length_append,List.length_map,List.length_cons,Nat.mul_add]
  omega
/-! ### How many wait, and how many are not known -/
def wsum (E:List Int) (wait:Int→List RS):Nat→Nat
 |0=>0
 |n+1=>wsum E wait n+if (n:Int)∈E then 0 else (wait (n:Int)).length
def unk (E:List Int):Nat→Nat
 |0=>0
 |n+1=>unk E n+if (n:Int)∈E then 0 else 1
theorem wsum_nil (E:List Int):∀n,wsum E (fun _=> []) n=0:=by
 intro n
 induction n with
 |zero=>rfl
 |succ n ih=>unfold wsum;rw[ih];simp
theorem mem_put {E:List Int} {x n:Nat} (h:n≠x):((n:Int)∈E++[(x:Int)])↔(n:Int)∈E:=by
 rw[List.mem_append]
 constructor
 ·rintro(h'|h')
  ·exact h'
  ·simp at h';omega
 ·exact .inl
theorem lt_step {x n:Nat} (h:n≠x) (a:Nat):(if x<n+1 then a else 0)=if x<n then a else 0:=by
 by_cases hl:x<n
 ·rw[if_pos hl,if_pos (by omega)]
 ·rw[if_neg hl,if_neg (by omega)]
theorem lt_self (n a:Nat):(if n<n+1 then a else 0)=a:=if_pos (by omega)
theorem lt_irr (n a:Nat):(if n<n then a else 0)=0:=if_neg (by omega)
theorem wsum_put {E:List Int} {wait:Int→List RS} {x:Nat} (hx:(x:Int)∉E):∀n,wsum (E++[(x:Int)]) wait n+(if x<n then (wait (x:Int)).length else 0)=wsum E wait n:=by
 intro n
 induction n with
 |zero=>simp[wsum]
 |succ n ih=>
  unfold wsum
  by_cases h:n=x
  ·subst h
   rw[lt_irr]at ih
   rw[lt_self,if_pos (by simp),if_neg hx]
   omega
  ·have hm:=mem_put (E:=E) h
   rw[lt_step h]
   by_cases hn:(n:Int)∈E
   ·rw[if_pos (hm.2 hn),if_pos hn];omega
   ·rw[if_neg (fun c=>hn (hm.1 c)),if_neg hn];omega
theorem wsum_set {E:List Int} {wait:Int→List RS} {x:Nat} {l:List RS} (hx:(x:Int)∉E):∀n,wsum E (setW wait x l) n+(if x<n then (wait (x:Int)).length else 0)=wsum E wait n+(if x<n then l.length else 0):=by
 intro n
 induction n with
 |zero=>simp[wsum]
 |succ n ih=>
  unfold wsum
  by_cases h:n=x
  ·subst h
   rw[lt_irr,lt_irr]at ih
   have e:setW wait n l (n:Int)=l:=by unfold setW;rw[if_pos rfl]
   rw[lt_self,lt_self,if_neg hx,if_neg hx,e]
   omega
  ·have e:setW wait x l (n:Int)=wait (n:Int):=by unfold setW;rw[if_neg (by omega)]
   rw[lt_step h,lt_step h,e]
   omega
theorem wsum_le {E:List Int} {wait:Int→List RS} {x n:Nat} (hx:(x:Int)∉E) (hn:x<n):(wait (x:Int)).length≤wsum E wait n:=by
 have:=wsum_put (wait:=wait) hx n
 rw[if_pos hn]at this
 omega
theorem unk_put {E:List Int} {x:Nat} (hx:(x:Int)∉E):∀n,unk (E++[(x:Int)]) n+(if x<n then 1 else 0)=unk E n:=by
 intro n
 induction n with
 |zero=>simp[unk]
 |succ n ih=>
  unfold unk
  by_cases h:n=x
  ·subst h
   rw[lt_irr]at ih
   rw[lt_self,if_pos (by simp),if_neg hx]
   omega
  ·have hm:=mem_put (E:=E) h
   rw[lt_step h]
   by_cases hn:(n:Int)∈E
   ·rw[if_pos (hm.2 hn),if_pos hn];omega
   ·rw[if_neg (fun c=>hn (hm.1 c)),if_neg hn];omega
theorem Rest.non {P:List PRD} {E:List Int} {r:RS} (h:Rest P E r) (ok:okN P) {s:SY} (hs:s∈r.2) (h2:s.1=2):0≤s.2.2∧s.2.2<P.length:=by
 obtain⟨i,p,pre,-,h3,h4,-⟩:=h
 exact ok p (List.mem_of_getElem? h3) _ h4 s (List.mem_append_right _ hs) h2
theorem Rest.of {P:List PRD} {E:List Int} {r:RS} (h:Rest P E r):∃i:Nat,r.1=(i:Int)∧i<P.length:=by
 obtain⟨i,p,pre,h1,h3,-,-⟩:=h
 exact⟨i,h1,(List.getElem?_eq_some_iff.1 h3).1⟩
end Go.Proofs.YtcblkmlcbedomaaGreatDoor.Nl
namespace Go.Proofs.YtcblkmlcbedomaaGreatDoor.Rc
open Go.Proofs.YtcblkmlcbedomaaGreatDoor.F
theorem wi_trans {P:List PRD}:∀(j k n m:Nat) (x:Int),wi P k n (m:Int)→wi P j m x→Wi P n x:=by
 intro j
 induction j with
 |zero=>intro k n m x h1 h2;exact⟨k+1,m,h1,h2⟩
 |succ j ih=>
  intro k n m x h1 ⟨p,h2,h3⟩
  exact(ih k n m p h1 h2).more h3
theorem Wi.trans {P:List PRD} {n m:Nat} {x:Int} (h:Wi P n (m:Int)) (k:Wi P m x):Wi P n x:=by
 obtain⟨j,h⟩:=h
 obtain⟨i,k⟩:=k
 exact wi_trans i j n m x h k
theorem Wi.last {P:List PRD} {n:Nat} {x:Int} (h:Wi P n x):∃m:Nat,x∈symsN P m:=by
 obtain⟨k,h⟩:=h
 cases k with
 |zero=>exact⟨n,h⟩
 |succ k=>obtain⟨m,-,h⟩:=h;exact⟨m,h⟩
end Go.Proofs.YtcblkmlcbedomaaGreatDoor.Rc
set_option linter.unusedVariables false
set_option linter.unusedSimpArgs false
set_option maxRecDepth 20000
set_option maxHeartbeats 16000000
namespace Go.Proofs.YtcblkmlcbedomaaGreatDoor.Nl
open Go.RowKit Go.Maps
def setD (E:List Int):DataW Unit:=Maps.setOf (.agg []) (E.map zi)
def SetV (w:World) (b:Nat) (E:List Int):Prop:=w.ownsMap Tryz.prog 3 (unitElem (H:=Unit)) b E.length (setD E)∧∀x∈E,yQ x
theorem setD_has (E:List Int) (x:Int):Maps.has (setD E) (zi x)=decide (x∈E):=by
 unfold setD
 rw[has_setOf _ _ _ (fun k hk=>by obtain⟨y,-,rfl⟩:=List.mem_map.1 hk;exact⟨⟩)]
 rw[Bool.eq_iff_iff]
 simp only[List.any_map,List.any_eq_true,decide_eq_true_eq]
 constructor
 ·rintro⟨y,hy,e⟩
  have:y=x:=by simpa [Function.comp,zi,Lit.sameKey] using e
  rw[←this];exact hy
 ·intro hx
  exact⟨x,hx,by simp[Function.comp,zi,Lit.sameKey]⟩
theorem SetV.new (w:World):SetV (w.alloc (.map #[] 0)) w.heap.size []:=⟨World.ownsMap_made w _ _ _,fun x hx=>by cases hx⟩
theorem SetV.lt {w:World} {b:Nat} {E:List Int} (h:SetV w b E):b<w.heap.size:=h.1.lt
theorem SetV.keep {w X:World} {b:Nat} {E:List Int} (h:SetV w b E) (e:X.heap[b]? =w.heap[b]?):SetV X b E:=by
 obtain⟨⟨es,clock,hb,F,hs,hD⟩,hf⟩:=h
 exact⟨⟨es,clock,e.trans hb,F,hs,hD⟩,hf⟩
theorem SetV.later {w X:World} {b:Nat} {E:List Int} (h:SetV w b E) {B:Nat} (k:Below B w X) (hB:b<B):SetV X b E:=h.keep (k.block b hB)
theorem nhas_l (b:Nat) (E:List Int) (x:Int) (w:World) (h:SetV w b E) (hx:yQ x):
  Calls Tryz.prog 60 #[.map (some b),.int .i64 x] w fun e w'=>e= .returned (.bool (decide (x∈E)))∧Below w.heap.size w w':=by
 have hz:(zeroValue 87).run Tryz.prog w= .ok (.agg #[]) w:=by kernel_rfl
 obtain⟨ho,-⟩:=h
 have hk:=keyOf_int_mk Tryz.underlying3 (wf_fits hx)
 have HO:=ho
 clear ho
 go_enter Tryz.func60,Tryz.ntmps60
 go_wp2_with (at_lookup;refine wpList_lookup_own_unit _ rfl _ _ 80 rfl 3 87 setK Tryz.underlying80 hz b E.length _ rfl HO _ _ rfl hk ?_)
 go_ret
 exact⟨ret_bool (setD_has E x),Below.new1 _⟩
theorem setD_snoc (E:List Int) (x:Int):(setD E).put (zi x) (.agg [])=setD (E++[x]):=by
 unfold setD
 rw[List.map_append,List.map_cons,List.map_nil,setOf_snoc]
theorem nput_l (b:Nat) (E:List Int) (x:Int) (w:World) (h:SetV w b E) (hx:yQ x) (hn:E.length<1000000):
  Calls Tryz.prog 52 #[.map (some b),.int .i64 x] w fun e w'=>e= .returned (.tuple #[])∧SetV w' b (E++[x])∧w.grownBy w' (some b):=by
 obtain⟨ho,hf⟩:=h
 have hk:=keyOf_int_mk Tryz.underlying3 (wf_fits hx)
 have HO:=ho
 have hm:E.length<maxLen:=by unfold maxLen;omega
 have HF:=zk hf
 clear ho hf hn
 go_enter Tryz.func52,Tryz.ntmps52
 go_wp2_with (at_mapUpdate;refine wpList_mapUpdate_own _ rfl _ _ _ 80 rfl 3 87 setK Tryz.underlying80 _ b E.length _ rfl HO hm _ _ _ rfl rfl hk (.agg []) [] unitElem_mk ?_;intro w1 hown1 hgrow1)
 go_end0
 refine⟨rfl,⟨?_,?_⟩,hgrow1⟩
 ·rw[←setD_snoc,List.length_append];exact hown1
 ·intro y hy
  rcases List.mem_append.1 hy with hy|hy
  ·exact zq HF y hy
  ·simp at hy;subst hy;exact hx
def MwV (w:World) (b:Nat) (f:Int→Option Value):Prop:=
 ∃es clock,w.heap[b]? =some (.map es clock)∧(∀e∈es.toList,∃d:Int,e.key= .int .i64 d)∧
  ∀c:Int,(f c=none∧Instr.findNow (.int .i64) (.int .i64 c) es.toList 0=some none)∨∃v i,f c=some v∧Instr.findNow (.int .i64) (.int .i64 c) es.toList 0=some (some (i,v))
theorem same_z (c d:Int):Instr.sameNow (.int .i64) (.int .i64 c) (.int .i64 d)=some (c==d):=by simp[Instr.sameNow]
theorem nfind_app (k:Value):∀(es:List MapEntry) (e:MapEntry) (n:Nat),Instr.findNow (.int .i64) k (es++[e]) n=match Instr.findNow (.int .i64) k es n with
  |some none=>Instr.findNow (.int .i64) k [e] (n+es.length)
  |r=>r:=by
 intro es
 induction es with
 |nil=>intro e n;simp[Instr.findNow]
 |cons x t ih=>
  intro e n
  rw[List.cons_append]
  unfold Instr.findNow
  cases h:Instr.sameNow (.int .i64) k x.key with
  |none=>rfl
  |some b=>
   cases b with
   |true=>rfl
   |false=>
    simp only
    rw[ih]
    cases h2:Instr.findNow (.int .i64) k t (n+1)with
    |none=>rfl
    |some r=>
     cases r with
     |none=>
      simp only[List.length_cons]
      rw[show n+1+t.length=n+(t.length+1) by omega]
      unfold Instr.findNow
      rfl
     |some q=>rfl
theorem nfind_mod (c:Int) (u:Value):∀(es:List MapEntry) (n i:Nat) (v:Value),(∀e∈es,∃d:Int,e.key= .int .i64 d)→Instr.findNow (.int .i64) (.int .i64 c) es n=some (some (i,v))→
  n≤i∧(∃e,es[i-n]? =some e∧e.key= .int .i64 c)∧∀x:Int,Instr.findNow (.int .i64) (.int .i64 x) (es.modify (i-n) fun e=>{e with key:= .int .i64 c,val:=u}) n=if x=c then some (some (i,u))else Instr.findNow (.int .i64) (.int .i64 x) es n:=by
 intro es
 induction es with
 |nil=>intro n i v _ h;simp[Instr.findNow]at h
 |cons e t ih=>
  intro n i v hk h
  obtain⟨d,hd⟩:=hk e List.mem_cons_self
  unfold Instr.findNow at h
  rw[hd,same_z]at h
  by_cases hc:c=d
  ·rw[show(c==d)=true by simp[hc]]at h
   simp only[Option.some.injEq,Prod.mk.injEq]at h
   obtain⟨rfl,rfl⟩:=h
   refine⟨Nat.le_refl _,⟨e,by simp,by rw[hd,hc]⟩,fun x=> ?_⟩
   rw[Nat.sub_self]
   simp only[List.modify_zero_cons]
   unfold Instr.findNow
   simp only[same_z]
   by_cases hx:x=c
   ·rw[if_pos hx,show(x==c)=true by simp[hx]]
   ·rw[if_neg hx,show(x==c)=false by simpa using hx,hd,same_z,show(x==d)=false by rw[←hc];simpa using hx]
  ·rw[show(c==d)=false by simpa using hc]at h
   simp only at h
   obtain⟨h1,⟨e',h2,h3⟩,h4⟩:=ih (n+1) i v (fun e he=>hk e (List.mem_cons_of_mem _ he)) h
   have e1:i-n=(i-(n+1))+1:=by omega
   refine⟨by omega,⟨e',by rw[e1];simpa using h2,h3⟩,fun x=> ?_⟩
   rw[e1]
   simp only[List.modify_succ_cons]
   unfold Instr.findNow
   rw[hd,same_z]
   by_cases hx:x=d
   ·rw[show(x==d)=true by simp[hx],if_neg (by intro hxc;exact hc (hxc.symm.trans hx))]
   ·rw[show(x==d)=false by simpa using hx]
    simp only
    rw[h4]
def updV (f:Int→Option Value) (c:Int) (v:Value):Int→Option Value:=fun x=>if x=c then some v else f x
theorem MwV.new (w:World):MwV (w.alloc (.map #[] 0)) w.heap.size (fun _=>none):=⟨#[],0,heap_alloc_new w _,fun e he=>by simp at he,fun c=> .inl ⟨rfl,rfl⟩⟩
theorem MwV.keep {w X:World} {b:Nat} {f:Int→Option Value} (h:MwV w b f) (e:X.heap[b]? =w.heap[b]?):MwV X b f:=by
 obtain⟨es,clock,hb,hf⟩:=h
 exact⟨es,clock,e.trans hb,hf⟩
theorem MwV.lt {w:World} {b:Nat} {f:Int→Option Value} (h:MwV w b f):b<w.heap.size:=by
 obtain⟨es,clock,h1,hf⟩:=h
 exact(Array.getElem?_eq_some_iff.1 h1).1
theorem ck_int (e:Bool) (c:Int) (W:World):(Instr.checkKey e 10000 3 (.int .i64 c)).run Tryz.prog W= .ok () W:=by
 show(Instr.checkKey e (9999+1) 3 (.int .i64 c)).run Tryz.prog W= .ok () W
 rw[Instr.checkKey]
 simp[run_underlying Tryz.underlying3]
theorem MwV.put {w:World} {b:Nat} {f:Int→Option Value} (h:MwV w b f) (c:Int) (u:Value) (hfc:yQ c):
  ∃w',(Instr.mapUpdate 166 (.map (some b)) (.int .i64 c) u).run Tryz.prog w= .ok () w'∧MwV w' b (updV f c u)∧w.grownBy w' (some b)∧w'.heap.size=w.heap.size:=by
 obtain⟨es,clock,hb,hk,hf⟩:=h
 have hlt:=(Array.getElem?_eq_some_iff.1 hb).1
 have hst:=setK.stays w (keyOf_int_mk Tryz.underlying3 (wf_fits hfc))
 rcases hf c with ⟨h1,hnow⟩|⟨v,i,h1,hnow⟩
 ·refine⟨{w with heap:=w.heap.setIfInBounds b (.map (es.push {key:= .int .i64 c,val:=u,born:=clock}) (clock+1))},?_,?_,⟨rfl,rfl,rfl,by simp,fun k _ hn=>by simp[Array.getElem?_setIfInBounds,show b≠k from fun e=>hn (by rw[e])]⟩,by simp⟩
  ·simp[Instr.mapUpdate,run_underlying Tryz.underlying166,getObj,setObj,hb,ck_int,run_underlying Tryz.underlying3,Instr.findKey,hnow,Sem.run]
  ·refine⟨es.push {key:= .int .i64 c,val:=u,born:=clock},clock+1,by simp[Array.getElem?_setIfInBounds,hlt],fun e he=> ?_,fun x=> ?_⟩
   ·rw[Array.toList_push]at he
    rcases List.mem_append.1 he with he|he
    ·exact hk e he
    ·simp at he;subst he;exact⟨c,rfl⟩
   ·rw[Array.toList_push,nfind_app]
    unfold updV
    by_cases e:x=c
    ·subst e
     rw[hnow,if_pos rfl]
     exact .inr ⟨u,_,rfl,by simp[Instr.findNow,same_z];rfl⟩
    ·rw[if_neg e]
     rcases hf x with ⟨h1,h2⟩|⟨g',j,h1,h2⟩
     ·refine .inl ⟨h1,?_⟩
      rw[h2]
      have:(x==c)=false:=beq_eq_false_iff_ne.2 e
      simp[Instr.findNow,same_z,this]
     ·exact .inr ⟨g',j,h1,by rw[h2]⟩
 ·obtain⟨-,⟨e0,he0,hke⟩,hm⟩:=nfind_mod c u es.toList 0 i v hk hnow
  rw[Nat.sub_zero]at he0 hm
  have hei:es[i]? =some e0:=by simpa using he0
  refine⟨{w with heap:=w.heap.setIfInBounds b (.map (es.modify i fun e=>{e with key:= .int .i64 c,val:=u}) clock)},?_,?_,⟨rfl,rfl,rfl,by simp,fun k _ hn=>by simp[Array.getElem?_setIfInBounds,show b≠k from fun e=>hn (by rw[e])]⟩,by simp⟩
  ·simp[Instr.mapUpdate,run_underlying Tryz.underlying166,getObj,setObj,hb,ck_int,run_underlying Tryz.underlying3,Instr.findKey,hnow,hei,hke,hst,Sem.run]
  ·refine⟨es.modify i fun e=>{e with key:= .int .i64 c,val:=u},clock,by simp[Array.getElem?_setIfInBounds,hlt],fun e he=> ?_,fun x=> ?_⟩
   ·rw[Array.toList_modify]at he
    obtain⟨j,hj⟩:=List.mem_iff_getElem?.1 he
    rw[List.getElem?_modify]at hj
    cases h3:es.toList[j]? with
    |none=>rw[h3]at hj;simp at hj
    |some e'=>
     rw[h3]at hj
     simp only[Option.map_eq_map,Option.map_some,Option.some.injEq]at hj
     subst hj
     by_cases hij:i=j
     ·rw[if_pos hij];exact⟨c,rfl⟩
     ·rw[if_neg hij];exact hk e' (List.mem_of_getElem? h3)
   ·rw[Array.toList_modify,hm]
    unfold updV
    by_cases e:x=c
    ·rw[if_pos e,if_pos e];exact .inr ⟨u,i,rfl,rfl⟩
    ·rw[if_neg e,if_neg e];exact hf x
theorem MwV.get {w:World} {b:Nat} {f:Int→Option Value} (h:MwV w b f) (c:Int):
  (Instr.lookup 166 (.map (some b)) (.int .i64 c) false).run Tryz.prog w= .ok ((f c).getD (.slice none 0 0)) w:=by
 obtain⟨es,clock,hb,hk,hf⟩:=h
 have hz:(zeroValue 164).run Tryz.prog w= .ok (.slice none 0 0) w:=by kernel_rfl
 rcases hf c with ⟨h1,h2⟩|⟨g,i,h1,h2⟩
 ·simp[Instr.lookup,run_underlying Tryz.underlying166,getObj,hb,ck_int,run_underlying Tryz.underlying3,Instr.findKey,h2,h1,hz,Sem.run]
 ·simp[Instr.lookup,run_underlying Tryz.underlying166,getObj,hb,ck_int,run_underlying Tryz.underlying3,Instr.findKey,h2,h1,Sem.run]
end Go.Proofs.YtcblkmlcbedomaaGreatDoor.Nl
set_option linter.unusedVariables false
set_option linter.unusedSimpArgs false
set_option maxRecDepth 20000
set_option maxHeartbeats 16000000
namespace Go.Proofs.YtcblkmlcbedomaaGreatDoor.Nl
open Go.RowKit Go.Shelf
theorem bo_from {b B:Nat} {W W':World} (h:Bo b W W') (hb:b<B):KeepsFrom B W W':=
 ⟨h.size,fun k o hB hk _=>(h.block k (Array.getElem?_eq_some_iff.1 hk).1 (fun e=>by injection e with e;omega)).trans hk⟩
theorem rangeMore {n:Nat} {P:Program} {g:Operand} {t:Tmp} {assign body:Code} {Q:Exit→Act→World→Prop} {a:Act} {w:World}
  (h1:1≤n) {gf:Nat} {cs:Array Value} (hg:a.eval g= .func (.func gf) #[] cs) (eg:∀args w,(callFunc gf args).run P w= .ok (.enter gf args) w)
  (b:Nat) (hb:b<w.heap.size) (I:List Int→World→Prop) (May:List Int→Int→Prop) (Fin:List Int→Prop)
  (hIb:∀pre W W',I pre W→Below w.heap.size W W'→I pre W') (h0:I [] w) (a₁:Int→Act)
  (hassign:∀(l:Nat) (x:Int) (W:World) (K:Act→World→Prop),K (a₁ x) W→
   assign.wpIn (Fence.wide.inRound l) (n-1-1) P (Exit.then K (fun _ _ _=>False)) {tmps:=a.tmps.setIfInBounds t (.int .i64 x),defers:=[]} W)
  (hbody:∀(l:Nat) (pre:List Int) (x:Int) (W:World),I pre W→May pre x→w.heap.size≤W.heap.size→
   body.wpIn (Fence.wide.inRound l) (n-1-1) P (onlyEnd fun W'=>Bo b W W'∧I (pre++[x]) W') (a₁ x) W)
  (hiter:∀(lr:Nat) (W:World) (J:List Int→World→Prop),w.heap.size+2=W.heap.size→Below w.heap.size w W→(∀pre W1,J pre W1→I pre W1)→(∀pre W1 W2,J pre W1→Below W.heap.size W1 W2→J pre W2)→
   (∀pre x W1,J pre W1→W.heap.size≤W1.heap.size→May pre x→YieldAt Fence.wide (n-1-1) P lr #[.int .i64 x] W1 fun e W'=>e= .returned (.bool true)∧J (pre++[x]) W'∧Bo b W1 W')→
   J [] W→CallsIn Fence.wide (n-1) P gf (#[.func (.yield lr) #[] #[]]++cs) W fun e W'=>(∃v,e= .returned v)∧∃xs,Fin xs∧J xs W')
  (hdone:∀(xs:List Int) (W:World),Fin xs→I xs W→W.heap[w.heap.size]? =some (.deferred (some []))→Q .normal {a with defers:={target:= .collected w.heap.size,args:= #[]}::a.defers} W):
  (Code.rangeFunc g #[t] assign body).wpIn Fence.wide n P Q a w:=by
 refine wpIn_rangeFunc fun fn hfn=> ?_
 obtain⟨rc,hrc⟩:∃rc:LoopState→Loop,rc=fun st=>{state:=st,pending:=none,fn:=fn,tmps:=a.tmps,params:= #[t],assign:=assign,body:=body,defers:=w.heap.size}:=⟨_,rfl⟩
 obtain⟨W1,hW1⟩:∃W1,(w.alloc (.deferred (some []))).alloc (.loop (rc .ready))=W1:=⟨_,rfl⟩
 have s1:W1.heap.size=w.heap.size+2:=by rw[←hW1];simp
 have b1:Below w.heap.size w W1:=by rw[←hW1];exact((Below.refl _ w).alloc (Nat.le_refl _) _).alloc (by simp) _
 have d1:W1.heap[w.heap.size]? =some (.deferred (some [])):=by
  rw[←hW1];exact(Below.heap_alloc _ _ _ (by simp)).trans (World.alloc_heap_new w _)
 have r1:W1.heap[w.heap.size+1]? =some (.loop (rc .ready)):=by
  rw[←hW1];have:=World.alloc_heap_new (w.alloc (.deferred (some []))) (.loop (rc .ready));rwa [World.size_alloc]at this
 have i1:I [] W1:=hIb _ _ _ h0 b1
 refine⟨w.heap.size+1,[{target:= .collected w.heap.size,args:= #[]}],W1,{target:= .fn (.func gf) cs,args:= #[.func (.yield (w.heap.size+1)) #[] #[]]},W1,gf,
  #[.func (.yield (w.heap.size+1)) #[] #[]]++cs,W1,?_,?_,fun _ _=>trivial,?_,fun _=>h1,?_⟩
 ·rw[←hW1,hrc];exact run_enterLoop_outer _ _ _ _ _
 ·simp only[resolve,hg]
  simp[go_sem]
 ·simp[invoke,go_sem,eg]
 ·refine(hiter (w.heap.size+1) W1 (fun pre W=>I pre W∧W.heap[w.heap.size+1]? =some (.loop (rc .ready))∧W.heap[w.heap.size]? =some (.deferred (some [])))
   s1.symm b1 (fun _ _ h=>h.1) (fun pre X Y h hB=>⟨hIb _ _ _ h.1 (hB.mono (by omega)),(hB.block _ (by omega)).trans h.2.1,(hB.block _ (by omega)).trans h.2.2⟩) ?_ ⟨i1,r1,d1⟩).mono ?_
  ·rintro pre x W ⟨hi,hl,hd⟩ hs hx
   have hlt:w.heap.size+1<W.heap.size:=(Array.getElem?_eq_some_iff.1 hl).1
   have hy:(Instr.yield (w.heap.size+1) #[.int .i64 x]).run P W= .ok (.round (w.heap.size+1) fn (a.tmps.setIfInBounds t (.int .i64 x)) assign body) W:=by
    have:=run_yield (P:=P) (args:= #[.int .i64 x]) hl (by rw[hrc];rfl)
    rw[hrc]at this
    simpa using this
   refine⟨fn,_,assign,body,hy,roundIn_of_wpIn hfn ?_⟩
   refine hassign _ x W _ ?_
   refine⟨_,run_beginRound hl (by rw[hrc]),?_⟩
   obtain⟨Wb,hWb⟩:∃Wb,W.putObj (w.heap.size+1) (.loop {rc .ready with state:= .busy})=Wb:=⟨_,rfl⟩
   rw[hWb]
   have lb:Wb.heap[w.heap.size+1]? =some (.loop {rc .ready with state:= .busy}):=by rw[←hWb];exact World.putObj_heap_same hlt
   have db:Wb.heap[w.heap.size]? =some (.deferred (some [])):=by rw[←hWb];exact(World.putObj_heap_other (by omega)).trans hd
   have gb:W.grownBy Wb (some (w.heap.size+1)):=by rw[←hWb];exact grownBy_putObj' W _ _
   have ib:I pre Wb:=hIb _ _ _ hi ((Below.refl _ W).grown gb (by omega) (fun k e=>by cases e;omega))
   refine wpIn_mono (hbody _ pre x Wb ib hx (Nat.le_trans (by omega) gb.size)) ?_
   rintro e a3 W3 hp
   cases e with
   |normal=>
    obtain⟨hk,hi3⟩:=hp
    have hk':=bo_from (B:=w.heap.size) hk hb
    have l3:=hk'.same _ _ (by omega) lb rfl
    have d3:=hk'.same _ _ (Nat.le_refl _) db rfl
    have er:=run_endRound (P:=P) none l3
    have g3:W3.grownBy (W3.putObj (w.heap.size+1) (.loop (rc .ready))) (some (w.heap.size+1)):=grownBy_putObj' W3 _ _
    have l4:(W3.putObj (w.heap.size+1) (.loop (rc .ready))).heap[w.heap.size+1]? =some (.loop (rc .ready)):=World.putObj_heap_same (Array.getElem?_eq_some_iff.1 l3).1
    have er':(Instr.endRound (w.heap.size+1) none).run P W3= .ok (.bool true) (W3.putObj (w.heap.size+1) (.loop (rc .ready))):=by
     rw[hrc]at er⊢;exact er
    refine⟨_,_,er',rfl,⟨hIb _ _ _ hi3 ((Below.refl _ W3).grown g3 (by have:=hk.size;have:=gb.size;omega) (fun k e=>by cases e;omega)),l4,(World.putObj_heap_other (by omega)).trans d3⟩,?_⟩
    -- all but b lies as it lay: the record, too
    refine⟨g3.os.trans (hk.os.trans gb.os),g3.tape.trans (hk.tape.trans gb.tape),g3.output.trans (hk.output.trans gb.output),Nat.le_trans gb.size (Nat.le_trans hk.size g3.size),fun k hk1 hn=> ?_⟩
    by_cases hkl:k=w.heap.size+1
    ·subst hkl;rw[l4,hl]
    ·rw[g3.block k (Nat.lt_of_lt_of_le hk1 (Nat.le_trans gb.size hk.size)) (fun e=>by injection e with e;exact hkl e),hk.block k (Nat.lt_of_lt_of_le hk1 gb.size) hn,gb.block k hk1 (fun e=>by injection e with e;exact hkl e)]
   |_=>exact hp.elim
  ·rintro e W2 ⟨⟨v,rfl⟩,xs,hx,hi,hl,hd⟩
   have g4:W2.grownBy (W2.putObj (w.heap.size+1) (.loop {rc .ready with state:= .exhausted})) (some (w.heap.size+1)):=grownBy_putObj' W2 _ _
   refine⟨none,_,?_,hdone xs _ hx (hIb _ _ _ hi ((Below.refl _ W2).grown g4 (by have:=(Array.getElem?_eq_some_iff.1 hl).1;omega) (fun k e=>by cases e;omega))) ((World.putObj_heap_other (by omega)).trans hd)⟩
   have:=run_endLoop (P:=P) hl (by rw[hrc];simp)
   rw[hrc]at this⊢
   exact this
end Go.Proofs.YtcblkmlcbedomaaGreatDoor.Nl
namespace Go.Proofs.YtcblkmlcbedomaaGreatDoor.Nl
open Go.RowKit Go.Shelf Go.Proofs.YtcblkmlcbedomaaGreatDoor.F
def SyL (w:World) (B:Nat) (v:Value) (l:List SY):Prop:=∃a c,v= .slice a l.length c∧l.length≤c∧c≤maxLen∧
 ∀j s,l[j]? =some s→yQ s.2.2∧∃g off x n k,a=some ⟨g,off,none⟩∧g<B∧w.cell? ⟨g,off+3*j,none⟩=some (.int .i64 s.1)∧w.cell? ⟨g,off+3*j+1,none⟩=some (.slice x n k)∧w.cell? ⟨g,off+3*j+2,none⟩=some (.int .i64 s.2.2)
def AltL (w:World) (B:Nat) (v:Value) (A:List (List SY)):Prop:=∃a c,v= .slice a A.length c∧A.length≤c∧c≤maxLen∧
 ∀j l,A[j]? =some l→∃g off u,a=some ⟨g,off,none⟩∧g<B∧w.cell? ⟨g,off+j,none⟩=some u∧SyL w B u l
def PrL (w:World) (B:Nat) (v:Value) (P:List PRD):Prop:=∃a c,v= .slice a P.length c∧P.length≤c∧c≤maxLen∧
 ∀j p,P[j]? =some p→∃g off u m x n k,a=some ⟨g,off,none⟩∧g<B∧w.cell? ⟨g,off+3*j,none⟩=some u∧w.cell? ⟨g,off+3*j+1,none⟩=some (.int .i64 m)∧w.cell? ⟨g,off+3*j+2,none⟩=some (.slice x n k)∧AltL w B u p.1
theorem SyL.kept {w X:World} {B B':Nat} {v:Value} {l:List SY} (h:SyL w B v l) (k:∀g,g<B→g<B'∧X.heap[g]? =w.heap[g]?):SyL X B' v l:=by
 obtain⟨a,c,e,h1,h2,h3⟩:=h
 refine⟨a,c,e,h1,h2,fun j s hj=> ?_⟩
 obtain⟨hf,g,off,x,n,kk,ha,hg,q0,q1,q2⟩:=h3 j s hj
 have hc:=World.cell?_of_block (w:=w) (w':=X) (a:=⟨g,off,none⟩) (k g hg).2
 refine⟨hf,g,off,x,n,kk,ha,(k g hg).1,?_,?_,?_⟩
 ·rw[World.cell?_of_block (w:=w) (a:=⟨g,off+3*j,none⟩) (k g hg).2];exact q0
 ·rw[World.cell?_of_block (w:=w) (a:=⟨g,off+3*j+1,none⟩) (k g hg).2];exact q1
 ·rw[World.cell?_of_block (w:=w) (a:=⟨g,off+3*j+2,none⟩) (k g hg).2];exact q2
theorem AltL.kept {w X:World} {B B':Nat} {v:Value} {A:List (List SY)} (h:AltL w B v A) (k:∀g,g<B→g<B'∧X.heap[g]? =w.heap[g]?):AltL X B' v A:=by
 obtain⟨a,c,e,h1,h2,h3⟩:=h
 refine⟨a,c,e,h1,h2,fun j l hj=> ?_⟩
 obtain⟨g,off,u,ha,hg,q0,hs⟩:=h3 j l hj
 exact⟨g,off,u,ha,(k g hg).1,by rw[World.cell?_of_block (w:=w) (a:=⟨g,off+j,none⟩) (k g hg).2];exact q0,hs.kept k⟩
theorem PrL.kept {w X:World} {B B':Nat} {v:Value} {P:List PRD} (h:PrL w B v P) (k:∀g,g<B→g<B'∧X.heap[g]? =w.heap[g]?):PrL X B' v P:=by
 obtain⟨a,c,e,h1,h2,h3⟩:=h
 refine⟨a,c,e,h1,h2,fun j p hj=> ?_⟩
 obtain⟨g,off,u,m,x,n,kk,ha,hg,q0,q1,q2,hs⟩:=h3 j p hj
 refine⟨g,off,u,m,x,n,kk,ha,(k g hg).1,?_,?_,?_,hs.kept k⟩
 ·rw[World.cell?_of_block (w:=w) (a:=⟨g,off+3*j,none⟩) (k g hg).2];exact q0
 ·rw[World.cell?_of_block (w:=w) (a:=⟨g,off+3*j+1,none⟩) (k g hg).2];exact q1
 ·rw[World.cell?_of_block (w:=w) (a:=⟨g,off+3*j+2,none⟩) (k g hg).2];exact q2
theorem SyL.later {w X:World} {B:Nat} {v:Value} {l:List SY} (h:SyL w B v l) (b:Below B w X):SyL X B v l:=h.kept fun g hg=>⟨hg,b.block g hg⟩
theorem AltL.later {w X:World} {B:Nat} {v:Value} {A:List (List SY)} (h:AltL w B v A) (b:Below B w X):AltL X B v A:=h.kept fun g hg=>⟨hg,b.block g hg⟩
theorem PrL.later {w X:World} {B:Nat} {v:Value} {P:List PRD} (h:PrL w B v P) (b:Below B w X):PrL X B v P:=h.kept fun g hg=>⟨hg,b.block g hg⟩
theorem SyL.nil (w:World) (B:Nat):SyL w B (.slice none 0 0) []:=⟨none,0,rfl,Nat.le_refl _,Nat.zero_le _,fun j s h=>by simp at h⟩
theorem SyL.drop {w:World} {B:Nat} {a:Option Addr} {n c:Nat} {l:List SY} (h:SyL w B (.slice a n c) l) (i:Nat) (hi:i<l.length):∃g off,a=some ⟨g,off,none⟩∧SyL w B (.slice (some ⟨g,off+3*i,none⟩) (l.length-i) (c-i)) (l.drop i):=by
 obtain⟨a',c',e,h1,h2,h3⟩:=h
 injection e with e1 e2 e3
 subst e1;subst e3
 obtain⟨-,g,off,-,-,-,ha,-⟩:=h3 i l[i] (by simp[hi])
 refine⟨g,off,ha,some ⟨g,off+3*i,none⟩,c-i,by rw[List.length_drop],by rw[List.length_drop];omega,by omega,fun j s hj=> ?_⟩
 rw[List.getElem?_drop]at hj
 obtain⟨hf,g',off',x,n',k,ha',hg,q0,q1,q2⟩:=h3 (i+j) s hj
 rw[ha]at ha'
 injection ha' with ha'
 injection ha' with e4 e5
 subst e4;subst e5
 refine⟨hf,g,off+3*i,x,n',k,rfl,hg,?_,?_,?_⟩
 ·rw[show off+3*i+3*j=off+3*(i+j) by omega];exact q0
 ·rw[show off+3*i+3*j=off+3*(i+j) by omega];exact q1
 ·rw[show off+3*i+3*j=off+3*(i+j) by omega];exact q2
theorem beh_step {E:List Int} {l:List SY} {i:Nat} {s:SY} (h:l[i]? =some s) (hs:inE E s=true):behE E (l.drop i)=behE E (l.drop (i+1)):=by
 obtain⟨hi,e⟩:=List.getElem?_eq_some_iff.1 h
 rw[List.drop_eq_getElem_cons hi,e]
 show(if inE E s=true then _ else _)=_
 rw[if_pos hs]
theorem beh_stop {E:List Int} {l:List SY} {i:Nat} {s:SY} (h:l[i]? =some s) (hs:inE E s=false):behE E (l.drop i)=l.drop i:=by
 obtain⟨hi,e⟩:=List.getElem?_eq_some_iff.1 h
 rw[List.drop_eq_getElem_cons hi,e]
 show(if inE E s=true then _ else _)=_
 rw[if_neg (by rw[hs];simp)]
theorem behind_l (B b:Nat) (E:List Int) (v:Value) (l:List SY) (w:World) (h:SetV w b E) (hl:SyL w B v l) (hB:B≤w.heap.size):
  Calls Tryz.prog 127 #[.map (some b),v] w fun e w'=>∃v',e= .returned v'∧SyL w' B v' (behE E l)∧Below w.heap.size w w':=by
 obtain⟨a,c,rfl,hc1,hc2,-⟩:=id hl
 unfold maxLen at hc2
 have HL:=zk hl
 have HE:=zk h
 have hb:=h.lt
 clear hl h
 go_enter Tryz.func127,Tryz.ntmps127
 go_wp2_with fail
 go_loopw [9] (fun i wr=>∃(j:Nat),j≤l.length∧i= .int .i64 (j:Int)∧Hid (behE E l=behE E (l.drop j))∧Hid (Below w.heap.size w wr)∧w.heap.size≤wr.heap.size) (fun i _=>l.length-(intOf i).toNat)
 case atStart=>exact⟨0,Nat.zero_le _,rfl,rfl,Below.refl _ _,Nat.le_refl _⟩
 case round=>
  obtain⟨j,hj,rfl,hO,hbw,hs⟩:=hrel
  by_cases hlt:j<l.length
  ·obtain⟨g,off,rfl,hdrop⟩:=((zq HL).later ((zq hbw).mono hB)).drop j hlt
   obtain⟨a',c',e,-,-,h3⟩:=(zq HL).later ((zq hbw).mono hB)
   injection e with e1 e2 e3
   subst e1;subst e3
   obtain⟨hf,g',off',x,n',k,ha,hg,q0,q1,q2⟩:=h3 j l[j] (by simp[hlt])
   injection ha with ha
   injection ha with e4 e5
   subst e4;subst e5
   have hsj:l[j]? =some l[j]:=by simp[hlt]
   have HD:=zk hdrop
   have HF:=zk hf
   clear h3 hdrop hf e2
   have S1:Hid (SetV wr b E):=(zq HE).later (zq hbw) hb
   have HS:=zk hsj
   clear hsj
   generalize hsx:l[j]=s at*
   clear hsx
   obtain⟨s1,s2,s3⟩:=s
   simp only at q0 q2
   have j3:j*3=3*j:=by omega
   have q0':∀o,(wr.alloc o).cell? ⟨g,off+3*j,none⟩=some (.int .i64 s1):=fun o=>((Below.new1 o).cell (zJ q0)).trans q0
   by_cases h2:s1=2
   ·subst h2
    have CH:=zk (fun W (bW:Below wr.heap.size wr W)=>nhas_l b E s3 W ((zq S1).later bW (zq S1).lt) (zq HF))
    by_cases hin:s3∈E
    ·rw[decide_eq_true hin]at CH
     have ST:=zk (beh_step (E:=E) (zq HS) (inE_iff.2 ⟨rfl,hin⟩))
     clear hin
     go_wp2_with fail
     refine(zq CH _ (Below.new1 _)).mono ?_
     rintro e w4 ⟨rfl,b4⟩
     clear CH
     have B4:=zk (Xj (zq hbw) (Xj (Below.new1 _) b4))
     have s4:=(zq B4).size
     clear b4
     go_wp2_with fail
     go_roundw
     case rel=>exact⟨j+1,by omega,by simp,(zq hO).trans (zq ST),B4,s4⟩
     case measure=>simp[intOf];omega
    ·rw[decide_eq_false hin]at CH
     have ST:=zk (beh_stop (E:=E) (zq HS) (by
      cases hx:inE E (2,s2,s3)with
      |false=>rfl
      |true=>exact absurd (inE_iff.1 hx).2 hin))
     clear hin
     go_wp2_with fail
     refine(zq CH _ (Below.new1 _)).mono ?_
     rintro e w4 ⟨rfl,b4⟩
     clear CH
     have bb:=Xj (Below.new1 _) b4
     have B4:=zk (Xj (zq hbw) bb)
     have D4:=zk ((zq HD).later (bb.mono (Nat.le_trans hB hs)))
     clear b4 bb
     go_wp2_with fail
     go_ret
     exact⟨_,rfl,by rw[zq hO,zq ST];exact zq D4,zq B4⟩
   ·have bk:(s1 !=2)=true:=by simpa using h2
    have ST:=zk (beh_stop (E:=E) (zq HS) (by
      cases hx:inE E (s1,s2,s3)with
      |false=>rfl
      |true=>exact absurd (inE_iff.1 hx).1 h2))
    have D4:=fun o=>zk ((zq HD).later ((Below.new1 (w:=wr) o).mono (Nat.le_trans hB hs)))
    clear h2
    go_wp2_with fail
    go_ret
    exact⟨_,rfl,by rw[zq hO,zq ST];exact zq (D4 _),Xj (zq hbw) (Below.new1 _)⟩
  ·obtain rfl:j=l.length:=by omega
   go_wp2_with fail
   go_ret
   refine⟨_,rfl,?_,zq hbw⟩
   rw[zq hO,List.drop_eq_nil_of_le (Nat.le_refl _)]
   exact SyL.nil _ _
def RsC (w:World) (B:Nat):List RS→List Value→Prop
 | [],cs=>cs=[]
 |r::l,cs=>∃v cs',cs= .int .i64 r.1::v::cs'∧SyL w B v r.2∧RsC w B l cs'
theorem RsC.kept {w X:World} {B:Nat} (k:Below B w X):∀(l:List RS) (cs:List Value),RsC w B l cs→RsC X B l cs:=by
 intro l
 induction l with
 |nil=>intro cs h;exact h
 |cons r l ih=>
  intro cs h
  obtain⟨v,cs',e,hs,ht⟩:=h
  exact⟨v,cs',e,hs.later k,ih _ ht⟩
theorem RsC.len {w:World} {B:Nat}:∀(l:List RS) (cs:List Value),RsC w B l cs→cs.length=2*l.length:=by
 intro l
 induction l with
 |nil=>intro cs h;have:cs=[]:=h;subst this;rfl
 |cons r l ih=>
  intro cs h
  obtain⟨v,cs',rfl,-,ht⟩:=h
  have:=ih _ ht
  simp only[List.length_cons,this];omega
theorem RsC.app {w:World} {B:Nat} {m:List RS} {ds:List Value} (hm:RsC w B m ds):∀(l:List RS) (cs:List Value),RsC w B l cs→RsC w B (l++m) (cs++ds):=by
 intro l
 induction l with
 |nil=>intro cs h;have:cs=[]:=h;subst this;exact hm
 |cons r l ih=>
  intro cs h
  obtain⟨v,cs',rfl,hs,ht⟩:=h
  exact⟨v,cs'++ds,rfl,hs,ih _ ht⟩
theorem RsC.at {w:World} {B:Nat}:∀(l:List RS) (cs:List Value) (j:Nat) (r:RS),RsC w B l cs→l[j]? =some r→∃v,cs[2*j]? =some (.int .i64 r.1)∧cs[2*j+1]? =some v∧SyL w B v r.2:=by
 intro l
 induction l with
 |nil=>intro cs j r h hj;simp at hj
 |cons x l ih=>
  intro cs j r h hj
  obtain⟨v,cs',rfl,hs,ht⟩:=h
  cases j with
  |zero=>simp at hj;subst hj;exact⟨v,rfl,rfl,hs⟩
  |succ j=>
   obtain⟨u,h1,h2,h3⟩:=ih cs' j r ht (by simpa using hj)
   refine⟨u,?_,?_,h3⟩
   ·rw[show 2*(j+1)=2*j+1+1 by omega];simpa using h1
   ·rw[show 2*(j+1)+1=2*j+1+1+1 by omega];simpa using h2
theorem RsC.take {w:World} {B:Nat}:∀(l:List RS) (cs:List Value) (n:Nat),RsC w B l cs→RsC w B (l.take n) (cs.take (2*n)):=by
 intro l
 induction l with
 |nil=>intro cs n h;have:cs=[]:=h;subst this;simp[RsC]
 |cons x l ih=>
  intro cs n h
  obtain⟨v,cs',rfl,hs,ht⟩:=h
  cases n with
  |zero=>simp[RsC]
  |succ n=>
   rw[show 2*(n+1)=2*n+1+1 by omega]
   exact⟨v,cs'.take (2*n),rfl,hs,ih _ n ht⟩
def RstV (w:World) (B base:Nat) (v:Value) (l:List RS):Prop:=∃cs,w.ownsRow base 168 2 v l.length cs∧RsC w B l cs
theorem RstV.nil (w:World) (B base:Nat):RstV w B base (.slice none 0 0) []:=⟨[],World.ownsRow_nil w base _ _,rfl⟩
theorem RstV.form {w:World} {B base:Nat} {v:Value} {l:List RS} (h:RstV w B base v l):∃a c,v= .slice a l.length c∧l.length≤c∧c≤maxLen:=by
 obtain⟨cs,h,-⟩:=h
 rcases h.2 with ⟨rfl,h0⟩|⟨g,cap,cur,hv,hb,hg,hn,hm,-⟩
 ·exact⟨none,0,by rw[h0],by omega,Nat.zero_le _⟩
 ·exact⟨_,cap,hv,hn,hm⟩
theorem rest_info:(Tryz.prog.info? 168).map (fun i=>(i.zero,i.size,i.bytes))=some (some (.agg #[.int .i64 0,.slice none 0 0]),2,32):=by kernel_rfl
theorem new_rest (w:World) (n:Nat) (x0 x1:Value) (hn:n=w.heap.size):∀(j:Nat) (u:Value),[x0,x1][j]? =some u→(w.alloc (.cells #[x0,x1] 168)).cell? ((⟨n,0,none⟩:Addr).add j)=some u:=by
 subst hn
 exact World.news_of_block (cs:= #[x0,x1]) (t:=168) (fr:=(0,0)) (heap_alloc_new w _)
theorem own_bel {w W X:World} {base:Nat} {v:Value} {n:Nat} {cs:List Value} {t:TypeId} {sz:Nat} (h:W.ownsRow base t sz v n cs) (hb:Below base w W) (hB:base≤W.heap.size) (hg:W.grownBy X v.ownBlock):Below base w X:=
 hb.grown hg hB (fun k hk=>(h.lt k hk).1)
theorem own_stay {W X:World} {base:Nat} {v:Value} {n:Nat} {cs:List Value} {t:TypeId} {sz:Nat} (h:W.ownsRow base t sz v n cs) (k:Below W.heap.size W X):X.ownsRow base t sz v n cs:=
 h.kept (row:=none) ⟨k.os,k.tape,k.output,k.size,fun i hi _=>k.block i hi⟩ (by cases v.ownBlock<;>simp)
theorem RstV.later {w X:World} {B base:Nat} {v:Value} {l:List RS} (h:RstV w B base v l) (k:Below w.heap.size w X) (hB:B≤w.heap.size):RstV X B base v l:=by
 obtain⟨cs,h1,h2⟩:=h
 exact⟨cs,own_stay h1 k,RsC.kept (k.mono hB) _ _ h2⟩
theorem rests_app (p:PRD):∀(P:List PRD) (m:Int),restsOf (P++[p]) m=restsOf P m++p.1.map (fun a=>(m+(P.length:Int),a)):=by
 intro P
 induction P with
 |nil=>intro m;simp[restsOf]
 |cons q P ih=>
  intro m
  rw[List.cons_append]
  unfold restsOf
  rw[ih,List.append_assoc,List.length_cons]
  rw[show m+1+(P.length:Int)=m+((P.length+1:Nat):Int) by omega]
theorem rests_step {P:List PRD} {n:Nat} {p:PRD} (h:P[n]? =some p):restsOf (P.take (n+1)) 0=restsOf (P.take n) 0++p.1.map (fun a=>((n:Int),a)):=by
 obtain⟨hn,e⟩:=List.getElem?_eq_some_iff.1 h
 rw[List.take_succ_eq_append_getElem hn,e,rests_app,List.length_take,Nat.min_eq_left (by omega)]
 simp
theorem rests_l (B:Nat) (v:Value) (P:List PRD) (w:World) (h:PrL w B v P) (hB:B≤w.heap.size) (h60:P.length≤60) (h8:∀p∈P,p.1.length≤8):
  Calls Tryz.prog 126 #[v] w fun e w'=>∃v',e= .returned v'∧RstV w' B w.heap.size v' (restsOf P 0)∧Below w.heap.size w w':=by
 obtain⟨a,c,rfl,hc1,hc2,-⟩:=id h
 obtain⟨ti,hi0,hz0,hz1,hz2⟩:=info_parts rest_info
 unfold maxLen at hc2
 have HP:=zk h
 have H8:=zk h8
 clear h h8
 go_enter Tryz.func126,Tryz.ntmps126
 go_wp2_with fail
 go_loopw [3,10] (fun v i wr=>∃(j:Nat) (out:List RS),j≤P.length∧i= .int .i64 (j:Int)∧Hid (out=restsOf (P.take j) 0)∧out.length≤8*j∧RstV wr B w.heap.size v out∧Hid (Below w.heap.size w wr)∧w.heap.size≤wr.heap.size) (fun _ i _=>P.length-(intOf i).toNat)
 case atStart=>exact⟨0,[],Nat.zero_le _,rfl,rfl,Nat.le_refl _,RstV.nil _ _ _,Below.refl _ _,Nat.le_refl _⟩
 case round=>
  obtain⟨j,out,hj,rfl,hO,hol,hR,hbw,hs⟩:=hrel
  by_cases hlt:j<P.length
  ·obtain⟨a',c',e,-,-,h3⟩:=(zq HP).later ((zq hbw).mono hB)
   injection e with e1 e2 e3
   subst e1;subst e3
   have hpj:P[j]? =some P[j]:=by simp[hlt]
   have hp8:=zq H8 P[j] (List.getElem_mem hlt)
   obtain⟨g,off,u,m,x,n',k',rfl,hg,q0,q1,q2,ha⟩:=h3 j P[j] hpj
   have ST:=zk (rests_step hpj)
   clear h3 hpj e2
   generalize P[j]=p at*
   obtain⟨A,mk,N⟩:=p
   obtain⟨aA,cA,rfl,hA1,hA2,-⟩:=id ha
   unfold maxLen at hA2
   simp only at hp8 hA1
   have HA:=zk ha
   have HRv:=zk hR
   clear ha hR
   have j3:j*3=3*j:=by omega
   generalize hwr:wr=W4 at*
   clear hwr
   go_wp2_with fail
   have HB1:=zk (Xj (zq hbw) (Below.new1 (.cells #[.slice aA A.length cA,.int .i64 m,.slice x n' k'] 41)))
   have hR1:=(zq HRv).later (Below.new1 (.cells #[.slice aA A.length cA,.int .i64 m,.slice x n' k'] 41)) (Nat.le_trans hB hs)
   have HA1:=zk ((zq HA).later ((Below.new1 (w:=W4) (.cells #[.slice aA A.length cA,.int .i64 m,.slice x n' k'] 41)).mono (Nat.le_trans hB hs)))
   have s5:w.heap.size≤(W4.alloc (.cells #[.slice aA A.length cA,.int .i64 m,.slice x n' k'] 41)).heap.size:=(zq HB1).size
   clear HRv HA hbw
   generalize W4.alloc (.cells #[.slice aA A.length cA,.int .i64 m,.slice x n' k'] 41)=W5 at*
   go_loopw [3,18] (fun v i wr=>∃(k:Nat) (o2:List RS),k≤A.length∧i= .int .i64 (k:Int)∧Hid (o2=out++(A.take k).map fun a=>((j:Int),a))∧o2.length≤8*j+k∧RstV wr B w.heap.size v o2∧Hid (Below w.heap.size w wr)∧Hid (Below B W5 wr)∧w.heap.size≤wr.heap.size) (fun _ i _=>A.length-(intOf i).toNat)
   case atStart=>exact⟨0,out,Nat.zero_le _,rfl,by show _=_;simp,by omega,hR1,HB1,Below.refl _ _,s5⟩
   case round=>
    obtain⟨k,o2,hk,rfl,hI,hol2,hR2,hb2,hb3,hs2⟩:=hrel
    clear hR1 HB1
    by_cases hlt2:k<A.length
    ·obtain⟨a',c',e,-,-,h3⟩:=(zq HA1).later (zq hb3)
     injection e with e1 e2 e3
     subst e1;subst e3
     have hak:A[k]? =some A[k]:=by simp[hlt2]
     obtain⟨g2,off2,u2,rfl,hg2,r0,hsy⟩:=h3 k A[k] hak
     have ST2:Hid (o2++[((j:Int),A[k])]=out++(A.take (k+1)).map fun a=>((j:Int),a)):=by
      show _=_
      rw[zq hI,List.take_succ_eq_append_getElem hlt2,List.map_append,List.append_assoc];rfl
     obtain⟨a5,c5,rfl,-⟩:=id hsy
     have HSY:=zk hsy
     clear h3 hak e2 hsy
     generalize A[k]=l at*
     obtain⟨cs,own,hcs⟩:=hR2
     have HCS:=zk hcs
     clear hcs
     go_wp2_with (at_builtin;refine wpList_append_lies _ rfl _ _ 164 rfl w.heap.size 168 ti _ 2 32 Tryz.underlying164 hi0 hz0 hz1 hz2 rfl (by omega) _ _ _ rfl (own.alloc _) ⟨wr.heap.size,0,none⟩ 1 1 [.int .i64 j,.slice a5 l.length c5] rfl rfl (new_rest _ _ _ _ rfl) (by simp[Value.oneCell']) (by omega) (by unfold maxLen;omega) (by omega) (by simp;omega) (wr.heap.size+1) (by simp) ?_;intro gg cap1 w6 hown1 hgrow hat hlt1)
     have B6:Below w.heap.size w w6:=own_bel (own.alloc _) ((zq hb2).trans ((Below.new1 _).mono hs2)) (by simp;omega) hgrow
     have B7:Below B W5 w6:=(zq hb3).trans (((Below.new1 _).mono (Nat.le_trans hB hs2)).trans ((own_bel (own.alloc _) (Below.refl _ _) (by simp;omega) hgrow).mono hB))
     have B8:Below B wr w6:=((Below.new1 _).mono (Nat.le_trans hB hs2)).trans ((own_bel (own.alloc _) (Below.refl _ _) (by simp;omega) hgrow).mono hB)
     go_roundw
     case rel=>
      refine⟨k+1,o2++[((j:Int),l)],by omega,by simp,ST2,by simp;omega,⟨_,by rw[List.length_append];exact hown1,RsC.app (m:=[((j:Int),l)]) ⟨_,[],rfl,(zq HSY).later B8,rfl⟩ _ _ (RsC.kept B8 _ _ (zq HCS))⟩,B6,B7,B6.size⟩
     case measure=>simp[intOf];omega
    ·obtain rfl:k=A.length:=by omega
     have NXT:Hid (o2=restsOf (P.take (j+1)) 0):=by
      show _=_
      rw[zq ST,zq hI,zq hO,List.take_of_length_le (Nat.le_refl _)]
     go_wp2_with fail
     go_roundw
     case rel=>exact⟨j+1,o2,by omega,by simp,NXT,by omega,hR2,hb2,hs2⟩
     case measure=>simp[intOf];omega
  ·obtain rfl:j=P.length:=by omega
   have FIN:Hid (out=restsOf P 0):=by
    show _=_
    rw[zq hO,List.take_of_length_le (Nat.le_refl _)]
   have HRv:=zk hR
   clear hR
   go_wp2_with fail
   go_ret
   exact⟨_,rfl,by rw[←zq FIN];exact zq HRv,zq hbw⟩
theorem appIn_run {F:Fence} {nF:Nat} {P:Program} {w:World} {ops:Array Oper} {rest:List Oper} {o:Oper} {a:Act} {Q:Exit→Act→World→Prop} (hgd:o.guard=none) (s x:Operand) (t ty:TypeId)
  (ho:o.op= .call {callee:= .builtin .append,args:= #[s,x],argTypes:= #[t,t]}) (hty:o.type=ty) (v1 v2:Value) (hs:a.eval s=v1) (hx:a.eval x=v2) {v':Value} {w':World}
  (hr:(Builtin.append_ #[t,t] ty #[v1,v2]).run P w= .ok v' w') (h:wpListIn F nF P ops Q rest (a.put o.dst v') w'):wpListIn F nF P ops Q (o::rest) a w:=by
 refine wpListIn_plain hgd fun K hK=> ?_
 subst hty
 unfold Oper.wpIn
 refine⟨by simp[Oper.about,ho,resolve,Target.leads,Sem.run_pure],?_⟩
 rw[Oper.semAt_plain F _ _ (by rw[ho];intro c hc';cases hc')]
 simp[execOp,ho,resolve,invoke,builtin,hs,hx,hr,Result.andThen]
 exact hK _ _ h
abbrev nilR:Value:= .slice none 0 0
theorem RstV.last {w:World} {B base:Nat} {v:Value} {l:List RS} {r:RS} (h:RstV w B base v (l++[r])):∃g cap u,v= .slice (some ⟨g,0,none⟩) (l.length+1) cap∧l.length+1≤cap∧cap≤maxLen∧g<w.heap.size∧
  w.cell? ⟨g,2*l.length,none⟩=some (.int .i64 r.1)∧w.cell? ⟨g,2*l.length+1,none⟩=some u∧SyL w B u r.2∧RstV w B base (.slice (some ⟨g,0,none⟩) l.length cap) l:=by
 obtain⟨cs,h1,h2⟩:=h
 obtain⟨u,q0,q1,hs⟩:=RsC.at _ _ l.length r h2 (by simp)
 rcases id h1.2 with ⟨rfl,h0⟩|⟨g,cap,cur,rfl,hb,hg,hn,hm,hsz,ht⟩
 ·rw[List.length_append]at h0;simp at h0
 ·have c0:=World.ownsRow.cells h1 (g:=g) rfl _ _ q0
  have c1:=World.ownsRow.cells h1 (g:=g) rfl _ _ q1
  simp only[Addr.add_lit]at c0 c1
  rw[Nat.zero_add]at c0 c1
  have hlen:(l++[r]).length=l.length+1:=by simp
  rw[hlen]at hn ht⊢
  refine⟨g,cap,u,rfl,hn,hm,(Array.getElem?_eq_some_iff.1 hg).1,c0,c1,hs,cs.take (2*l.length),⟨?_,.inr ⟨g,cap,cur,rfl,hb,hg,by omega,hm,hsz,?_⟩⟩,?_⟩
  ·have:=RsC.len _ _ h2
   rw[hlen]at this
   rw[List.length_take];omega
  ·rw[←ht,List.take_take];congr 1;omega
  ·have:=RsC.take _ _ l.length h2
   rwa [List.take_append_of_le_length (Nat.le_refl _),List.take_length]at this
theorem rst_append {w:World} {B base:Nat} {v:Value} {l m:List RS} (h:RstV w B base v l) {x:Option Addr} {c:Nat} (hx:(x=none∧m=[]∧c=0)∨∃g ds,x=some ⟨g,0,none⟩∧RsC w B m ds∧(∀(j:Nat) (u:Value),ds[j]? =some u→w.cell? ((⟨g,0,none⟩:Addr).add j)=some u)) (hc:m.length≤c) (hB:B≤base) (hb:base≤w.heap.size) (hl:l.length+m.length≤100000):
  ∃v' w',(Builtin.append_ #[164,164] 164 #[v,.slice x m.length c]).run Tryz.prog w= .ok v' w'∧RstV w' B base v' (l++m)∧w.grownBy w' v.ownBlock∧(∀g,v'.ownBlock=some g→v.ownBlock=some g∨w.heap.size≤g):=by
 obtain⟨ti,hi0,hz0,hz1,hz2⟩:=info_parts rest_info
 obtain⟨cs,own,hcs⟩:=h
 rcases hx with ⟨rfl,rfl,rfl⟩|⟨g,ds,rfl,hds,hcell⟩
 ·exact⟨v,w,run_append_owned_none (P:=Tryz.prog) w base _ _ 168 ti 2 Tryz.underlying164 hi0 v _ _ own,⟨cs,by rw[List.append_nil];exact own,by rw[List.append_nil];exact hcs⟩,⟨rfl,rfl,rfl,Nat.le_refl _,fun _ _ _=>rfl⟩,fun g hg=> .inl hg⟩
 ·have one:∀(m:List RS) (ds:List Value),RsC w B m ds→∀u∈ds,u.oneCell'=true:=by
   intro m
   induction m with
   |nil=>intro ds h;have:ds=[]:=h;subst this;intro u hu;simp at hu
   |cons r m ih=>
    intro ds h
    obtain⟨u,ds',rfl,⟨a,cc,rfl,-⟩,ht⟩:=h
    intro z hz
    simp at hz
    rcases hz with rfl|rfl|hz
    ·rfl
    ·rfl
    ·exact ih _ ht z hz
  obtain⟨v',w',hr,h2,h3,-,h5⟩:=run_append_own_at (P:=Tryz.prog) w base 164 164 168 ti _ 2 32 Tryz.underlying164 hi0 hz0 hz1 hz2 rfl (by omega) v l.length cs own ⟨g,0,none⟩ m.length c ds (by rw[RsC.len _ _ hds,Nat.mul_comm]) hcell (one m ds hds) (by unfold maxLen;omega) (by omega) hb
  have Bw:Below B w w':=(own_bel own (Below.refl _ _) hb h3).mono hB
  refine⟨v',w',hr,⟨cs++ds,by rw[List.length_append];exact h2,RsC.app (RsC.kept Bw _ _ hds) _ _ (RsC.kept Bw _ _ hcs)⟩,h3,fun k hk=> ?_⟩
  rcases h5 with h5|h5
  ·exact .inl (by rw[←h5];exact hk)
  ·rw[h5]at hk;injection hk with hk;exact .inr (by omega)
theorem RstV.src {w:World} {B base:Nat} {v:Value} {l:List RS} (h:RstV w B base v l):∃x c,v= .slice x l.length c∧l.length≤c∧((x=none∧l=[]∧c=0)∨∃g ds,x=some ⟨g,0,none⟩∧RsC w B l ds∧(∀(j:Nat) (u:Value),ds[j]? =some u→w.cell? ((⟨g,0,none⟩:Addr).add j)=some u)):=by
 obtain⟨cs,own,hcs⟩:=h
 rcases id own.2 with ⟨rfl,h0⟩|⟨g,cap,cur,rfl,hb,hg,hn,hm,hsz,ht⟩
 ·exact⟨none,0,by rw[h0],by omega,.inl ⟨rfl,List.eq_nil_of_length_eq_zero h0,rfl⟩⟩
 ·exact⟨_,cap,rfl,hn,.inr ⟨g,cs,rfl,hcs,World.ownsRow.cells own (g:=g) rfl⟩⟩
theorem RstV.keep {w X:World} {B base:Nat} {v:Value} {l:List RS} (h:RstV w B base v l) (k:∀g o,v.ownBlock=some g→w.heap[g]? =some o→X.heap[g]? =some o) (kB:Below B w X):RstV X B base v l:=by
 obtain⟨cs,own,hcs⟩:=h
 refine⟨cs,⟨own.1,?_⟩,RsC.kept kB _ _ hcs⟩
 rcases own.2 with hn|⟨g,cap,cur,e,hb,hg,rest⟩
 ·exact .inl hn
 ·exact .inr ⟨g,cap,cur,e,hb,k g _ (by rw[e];rfl) hg,rest⟩
theorem RstV.lt {w:World} {B base:Nat} {v:Value} {l:List RS} (h:RstV w B base v l):∀g,v.ownBlock=some g→base≤g∧g<w.heap.size:=by
 obtain⟨cs,own,-⟩:=h
 exact own.lt
theorem RstV.typ {w:World} {B base:Nat} {v:Value} {l:List RS} (h:RstV w B base v l):∀g,v.ownBlock=some g→∃cs,w.heap[g]? =some (.cells cs 168):=by
 obtain⟨cs,own,-⟩:=h
 intro k hk
 rcases own.2 with ⟨rfl,_⟩|⟨g,cap,cur,rfl,hb,hg,_⟩
 ·simp[Value.ownBlock]at hk
 ·simp[Value.ownBlock]at hk
  subst hk
  exact⟨cur,hg⟩
def WtV (w:World) (B base mw:Nat) (wait:Int→List RS) (nx:Value) (next:List RS):Prop:=
 RstV w B base nx next∧base≤mw∧∃f:Int→Option Value,MwV w mw f∧(∀m,RstV w B base ((f m).getD nilR) (wait m))∧
  (∀m m' g,m≠m'→((f m).getD nilR).ownBlock=some g→((f m').getD nilR).ownBlock≠some g)∧(∀m g,((f m).getD nilR).ownBlock=some g→nx.ownBlock≠some g)
theorem MwV.ne {w:World} {mw:Nat} {f:Int→Option Value} (h:MwV w mw f) {g:Nat} {cs:Array Value} {t:TypeId} {fr:Nat×Nat} (hg:w.heap[g]? =some (.cells cs t fr)):g≠mw:=by
 obtain⟨es,clock,hb,-⟩:=h
 intro e
 subst e
 rw[hb]at hg
 cases hg
theorem WtV.keep {w X:World} {B base mw:Nat} {wait:Int→List RS} {nx:Value} {next:List RS} (h:WtV w B base mw wait nx next) (k:∀g,base≤g→g<w.heap.size→X.heap[g]? =w.heap[g]?) (kB:Below B w X):WtV X B base mw wait nx next:=by
 obtain⟨h1,h2,f,h3,h4,h5,h6⟩:=h
 have key:∀{v:Value} {l:List RS},RstV w B base v l→RstV X B base v l:=fun hr=>hr.keep (fun g o hg ho=>(k g (hr.lt g hg).1 (hr.lt g hg).2).trans ho) kB
 exact⟨key h1,h2,f,h3.keep (k mw h2 h3.lt),fun m=>key (h4 m),h5,h6⟩
theorem WtV.later {w X:World} {B base mw:Nat} {wait:Int→List RS} {nx:Value} {next:List RS} (h:WtV w B base mw wait nx next) (k:Below w.heap.size w X) (hB:B≤w.heap.size):WtV X B base mw wait nx next:=
 h.keep (fun g _ hg=>k.block g hg) (k.mono hB)
theorem WtV.bo {w X:World} {B base mw b:Nat} {wait:Int→List RS} {nx:Value} {next:List RS} (h:WtV w B base mw wait nx next) (k:Bo b w X) (hb:b<base) (hB:B≤b) (hs:B≤w.heap.size):WtV X B base mw wait nx next:=
 h.keep (fun g h1 h2=>k.block g h2 (fun e=>by injection e;omega)) ⟨k.os,k.tape,k.output,k.size,fun i hi=>k.block i (by omega) (fun e=>by injection e;omega)⟩
theorem WtV.map {w:World} {B base mw:Nat} {wait:Int→List RS} {nx:Value} {next:List RS} (h:WtV w B base mw wait nx next):base≤mw∧mw<w.heap.size:=by
 obtain⟨h1,h2,f,h3,-⟩:=h
 exact⟨h2,h3.lt⟩
theorem WtV.pop {w:World} {B base mw:Nat} {wait:Int→List RS} {nx:Value} {l:List RS} {r:RS} (h:WtV w B base mw wait nx (l++[r])):∃g cap u,nx= .slice (some ⟨g,0,none⟩) (l.length+1) cap∧l.length+1≤cap∧cap≤maxLen∧g<w.heap.size∧
  w.cell? ⟨g,2*l.length,none⟩=some (.int .i64 r.1)∧w.cell? ⟨g,2*l.length+1,none⟩=some u∧SyL w B u r.2∧WtV w B base mw wait (.slice (some ⟨g,0,none⟩) l.length cap) l:=by
 obtain⟨h1,h2,f,h3,h4,h5,h6⟩:=h
 obtain⟨g,cap,u,rfl,q1,q2,q3,q4,q5,q6,q7⟩:=h1.last
 exact⟨g,cap,u,rfl,q1,q2,q3,q4,q5,q6,q7,h2,f,h3,h4,h5,fun m k hk=>h6 m k hk⟩
theorem WtV.come {w:World} {B base mw:Nat} {wait:Int→List RS} {nx:Value} {next:List RS} (h:WtV w B base mw wait nx next) (m:Int) (hB:B≤base) (hb:base≤w.heap.size) (hl:next.length+(wait m).length≤100000):
  ∃u,(Instr.lookup 166 (.map (some mw)) (.int .i64 m) false).run Tryz.prog w= .ok u w∧∃v' w',(Builtin.append_ #[164,164] 164 #[nx,u]).run Tryz.prog w= .ok v' w'∧WtV w' B base mw wait v' (next++wait m)∧Below base w w':=by
 obtain⟨h1,h2,f,h3,h4,h5,h6⟩:=h
 refine⟨_,h3.get m,?_⟩
 obtain⟨x,c,e,hc,hx⟩:=(h4 m).src
 rw[show(f m).getD (.slice none 0 0)=(f m).getD nilR from rfl,e]
 obtain⟨v',w',hr,hv,hg,hn⟩:=rst_append h1 hx hc hB hb hl
 obtain⟨cs1,own1,-⟩:=id h1
 have hbel:Below base w w':=own_bel own1 (Below.refl _ _) hb hg
 refine⟨v',w',hr,⟨hv,h2,f,h3.keep (hg.block mw h3.lt (fun c=> ?_)),fun k=>(h4 k).keep (fun g o hg1 ho=>(hg.block g ((h4 k).lt g hg1).2 (fun c=>h6 k g hg1 c.symm)).trans ho) (hbel.mono hB),h5,fun k g hg1 c=> ?_⟩,hbel⟩
 ·obtain⟨cs,hcs⟩:=h1.typ mw c.symm
  exact h3.ne hcs rfl
 ·rcases hn g c with h7|h7
  ·exact h6 k g hg1 h7
  ·have:=((h4 k).lt g hg1).2;omega
theorem WtV.put0 {w:World} {B base mw:Nat} {nx:Value} {next:List RS} {wait:Int→List RS} {f:Int→Option Value} (h1:RstV w B base nx next) (h2:base≤mw) (h3:MwV w mw f) (h4:∀m,RstV w B base ((f m).getD nilR) (wait m))
  (h5:∀m m' g,m≠m'→((f m).getD nilR).ownBlock=some g→((f m').getD nilR).ownBlock≠some g) (h6:∀m g,((f m).getD nilR).ownBlock=some g→nx.ownBlock≠some g) (m:Int) (r:RS) (hm:yQ m) {k:Nat} {u:Value} (hk:w.heap[k]? =some (.cells #[.int .i64 r.1,u] 168)) (hu:SyL w B u r.2) (hB:B≤base) (hb:base≤w.heap.size) (hl:(wait m).length+1≤100000):
  ∃v' w1 w2,(Builtin.append_ #[164,164] 164 #[(f m).getD nilR,.slice (some ⟨k,0,none⟩) 1 1]).run Tryz.prog w= .ok v' w1∧
   (Instr.mapUpdate 166 (.map (some mw)) (.int .i64 m) v').run Tryz.prog w1= .ok () w2∧WtV w2 B base mw (setW wait m (wait m++[r])) nx next∧Below base w w2:=by
 have hlt:=(Array.getElem?_eq_some_iff.1 hk).1
 obtain⟨v',w1,hr,hv,hg,hn⟩:=rst_append (m:=[r]) (h4 m) (x:=some ⟨k,0,none⟩) (c:=1) (.inr ⟨k,[.int .i64 r.1,u],rfl,⟨u,[],rfl,hu,rfl⟩,World.news_of_block (cs:= #[.int .i64 r.1,u]) (t:=168) (fr:=(0,0)) hk⟩) (Nat.le_refl _) hB hb (by simpa using hl)
 obtain⟨cs1,own1,-⟩:=id (h4 m)
 have hbel:Below base w w1:=own_bel own1 (Below.refl _ _) hb hg
 have h3':MwV w1 mw f:=h3.keep (hg.block mw h3.lt (fun c=>by
  obtain⟨cs,hcs⟩:=(h4 m).typ mw c.symm
  exact h3.ne hcs rfl))
 obtain⟨w2,hup,h3'',hg2,hs2⟩:=h3'.put m v' hm
 have hbel2:Below base w1 w2:=(Below.refl base w1).grown hg2 (Nat.le_trans hb hg.size) (fun k e=>by cases e;exact h2)
 have keep1:∀{v:Value} {l:List RS},RstV w1 B base v l→RstV w2 B base v l:=fun hr1=>hr1.keep (fun g o hg1 ho=>by
  obtain⟨cs,hcs⟩:=hr1.typ g hg1
  exact(hg2.block g (hr1.lt g hg1).2 (fun c=>by injection c with c;exact h3'.ne hcs c)).trans ho) (hbel2.mono hB)
 refine⟨v',w1,w2,hr,hup,⟨?_,h2,updV f m v',h3'',fun k=> ?_,fun k k' g hkk e1 e2=> ?_,fun k g e1=> ?_⟩,hbel.trans hbel2⟩
 ·exact keep1 (h1.keep (fun g o hg1 ho=>(hg.block g (h1.lt g hg1).2 (fun c=>h6 m g c.symm hg1)).trans ho) (hbel.mono hB))
 ·unfold updV setW
  by_cases e:k=m
  ·rw[if_pos e,if_pos e];exact keep1 hv
  ·rw[if_neg e,if_neg e]
   exact keep1 ((h4 k).keep (fun g o hg1 ho=>(hg.block g ((h4 k).lt g hg1).2 (fun c=>h5 k m g e hg1 c.symm)).trans ho) (hbel.mono hB))
 ·unfold updV at e1 e2
  by_cases c1:k=m
  ·rw[if_pos c1]at e1
   rw[if_neg (fun c=>hkk (c1.trans c.symm))]at e2
   rcases hn g e1 with h7|h7
   ·exact h5 m k' g (fun c=>hkk (c1.trans c)) h7 e2
   ·have:=((h4 k').lt g e2).2;omega
  ·rw[if_neg c1]at e1
   by_cases c2:k'=m
   ·rw[if_pos c2]at e2
    rcases hn g e2 with h7|h7
    ·exact h5 k m g c1 e1 h7
    ·have:=((h4 k).lt g e1).2;omega
   ·rw[if_neg c2]at e2;exact h5 k k' g hkk e1 e2
 ·unfold updV at e1
  by_cases c1:k=m
  ·rw[if_pos c1]at e1
   rcases hn g e1 with h7|h7
   ·exact h6 m g h7
   ·intro c;have:=(h1.lt g c).2;omega
  ·rw[if_neg c1]at e1;exact h6 k g e1
theorem WtV.put {w:World} {B base mw:Nat} {wait:Int→List RS} {nx:Value} {next:List RS} (h:WtV w B base mw wait nx next) (m:Int) (r:RS) (hm:yQ m) {u:Value} (hu:SyL w B u r.2) (hB:B≤base) (hb:base≤w.heap.size) (hl:(wait m).length+1≤100000):
  ∃x,(Instr.lookup 166 (.map (some mw)) (.int .i64 m) false).run Tryz.prog w= .ok x w∧∃v' w1 w2,(Builtin.append_ #[164,164] 164 #[x,.slice (some ⟨w.heap.size,0,none⟩) 1 1]).run Tryz.prog (w.alloc (.cells #[.int .i64 r.1,u] 168))= .ok v' w1∧
   (Instr.mapUpdate 166 (.map (some mw)) (.int .i64 m) v').run Tryz.prog w1= .ok () w2∧WtV w2 B base mw (setW wait m (wait m++[r])) nx next∧Below base w w2:=by
 obtain⟨h1,h2,f,h3,h4,h5,h6⟩:=h
 refine⟨_,h3.get m,?_⟩
 have hBw:B≤w.heap.size:=Nat.le_trans hB hb
 have b1:Below w.heap.size w (w.alloc (.cells #[.int .i64 r.1,u] 168)):=Below.new1 _
 obtain⟨v',w1,w2,q1,q2,q3,q4⟩:=WtV.put0 (h1.later b1 hBw) h2 (h3.keep (b1.block mw h3.lt)) (fun k=>(h4 k).later b1 hBw) h5 h6 m r hm (heap_alloc_new w _) (hu.later (b1.mono hBw)) hB (Nat.le_trans hb b1.size) hl
 exact⟨v',w1,w2,q1,q2,q3,(b1.mono hb).trans q4⟩
abbrev boxP (v:Value):Obj:= .cells #[v] 22
abbrev boxS (b:Nat):Obj:= .cells #[.map (some b)] 80
abbrev foundF (k1 k2:Nat):Value:= .func (.func 125) #[] #[.pointer (some ⟨k1,0,none⟩),.pointer (some ⟨k2,0,none⟩)]
theorem found_l (a:Option Addr) (m c:Nat) (b:Nat) (w:World):
  Calls Tryz.prog 81 #[.slice a m c,.map (some b)] w fun e w'=>e= .returned (foundF w.heap.size (w.heap.size+1))∧w'=(w.alloc (boxP (.slice a m c))).alloc (boxS b):=by
 have hmf:∀(fn:Fn) (first cap:Array Value) (w:World),(Instr.makeFunc fn first cap).run Tryz.prog w= .ok (.func fn first cap) w:=fun _ _ _ _=>rfl
 go_enter Tryz.func81,Tryz.ntmps81
 go_wp2
 go_ret
 exact⟨rfl,rfl⟩
theorem nkept {W w1:World} {o:Obj} (b:Below (W.alloc o).heap.size (W.alloc o) w1):w1.heap[W.heap.size]? =some o:=(b.block _ (by simp)).trans (heap_alloc_new W o)
theorem ncells2 {W:World} {g:Nat} {x0 x1:Value} {t:TypeId} (h:W.heap[g]? =some (.cells #[x0,x1] t)):
  W.cell? ⟨g,0,none⟩=some x0∧W.cell? ⟨g,1,none⟩=some x1∧W.frozen? ⟨g,0,none⟩=false∧W.frozen? ⟨g,1,none⟩=false:=by
 refine⟨?_,?_,?_,?_⟩<;>simp[World.cell?,World.frozen?,h]
theorem unk_congr {E E':List Int} (h:∀x,x∈E↔x∈E'):∀n,unk E n=unk E' n:=by
 intro n
 induction n with
 |zero=>rfl
 |succ n ih=>
  unfold unk
  rw[ih]
  by_cases hn:(n:Int)∈E
  ·rw[if_pos hn,if_pos ((h _).1 hn)]
  ·rw[if_neg hn,if_neg (fun c=>hn ((h _).2 c))]
theorem SetV.same {w:World} {b:Nat} {E E':List Int} (h:SetV w b E) (h':SetV w b E'):∀x,x∈E↔x∈E':=by
 obtain⟨⟨es,clock,hb,-,-,hD⟩,-⟩:=h
 obtain⟨⟨es',clock',hb',-,-,hD'⟩,-⟩:=h'
 rw[hb]at hb'
 injection hb' with hb'
 injection hb' with e1 e2
 subst e1
 intro x
 have h1:=setD_has E x
 have h2:=setD_has E' x
 rw[hD,←hD',h2]at h1
 by_cases hx:x∈E
 ·rw[decide_eq_true hx]at h1;exact⟨fun _=>of_decide_eq_true h1,fun _=>hx⟩
 ·rw[decide_eq_false hx]at h1;exact⟨fun c=>absurd c hx,fun c=>absurd c (of_decide_eq_false h1)⟩
theorem unk_of (b n:Nat):∃μ:World→Nat,∀w E,SetV w b E→μ w=unk E n:=by
 classical
 refine⟨fun w=>if h:∃E,SetV w b E then unk (Classical.choose h) n else 0,fun w E h=> ?_⟩
 have hex:∃E,SetV w b E:=⟨E,h⟩
 simp only[dif_pos hex]
 exact unk_congr (SetV.same (Classical.choose_spec hex) h) n
def lenV:Value→Nat
 | .slice _ n _=>n
 |_=>0
attribute [local go_sem] Oper.semAt_some
theorem found_iter (n:Nat) (hn:4≤n) (lr k1 k2 b B:Nat) (v:Value) (P:List PRD) (W:World) (J:List Int→World→Prop)
  (hJ:∀pre W1,J pre W1→SetV W1 b pre∧PrL W1 B v P∧W1.heap[k1]? =some (boxP v)∧W1.heap[k2]? =some (boxS b))
  (hJb:∀pre W1 W2,J pre W1→Below W.heap.size W1 W2→J pre W2)
  (hY:∀pre x W1,J pre W1→W.heap.size≤W1.heap.size→(x∉pre∧0≤x∧x<60)→YieldAt Fence.wide (n-1) Tryz.prog lr #[.int .i64 x] W1 fun e W'=>e= .returned (.bool true)∧J (pre++[x]) W'∧Bo b W1 W')
  (hBb:B≤b) (hbW:b<W.heap.size) (h60:P.length≤60) (h8:∀p∈P,p.1.length≤8) (ok:okN P) (h0:J [] W):
  CallsIn Fence.wide n Tryz.prog 125 #[.func (.yield lr) #[] #[],.pointer (some ⟨k1,0,none⟩),.pointer (some ⟨k2,0,none⟩)] W fun e W'=>(∃v,e= .returned v)∧∃E,(∀x,x∈E↔isN P x)∧J E W':=by
 have h1n:1≤n:=by omega
 have h1m:1≤n-1:=by omega
 obtain⟨-,hp0,b1,b2⟩:=hJ _ _ h0
 have hBW:B≤W.heap.size:=by omega
 have k0:W.cell? ⟨k1,0,none⟩=some v:=by simp[World.cell?,b1]
 have CR:=zk (rests_l B v P W hp0 hBW h60 h8)
 have hmm:= @run_makeMap Tryz.prog
 have hrl:=rests_len P 8 h8 0
 have HJ:=zk hJ
 have HJB:=zk hJb
 have HY:=zk hY
 have HOK:=zk ok
 obtain⟨μ,hμ⟩:=unk_of b P.length
 have HM:=zk hμ
 have H0:=zk h0
 clear hJ hJb hY ok hμ b1 b2 hp0 h8 h0
 refine callsIn_of_wp Tryz.func125 rfl trivial ?_ rfl
 simp only[Tryz.ntmps125,List.size_toArray,List.length_cons,List.length_nil,Nat.reduceAdd,Nat.reduceSub,Array.replicate_succ,Array.replicate_zero,List.push_toArray,List.append_toArray,List.nil_append,List.cons_append]
 gi_wp2_with fail
 refine⟨trivial,?_⟩
 refine(callsIn_wide.2 (zq CR)).mono ?_
 rintro e w1 ⟨v1,rfl,hr1,bb1⟩
 clear CR
 obtain⟨av,cv,rfl,hcv1,hcv2⟩:=hr1.form
 have HR1:=zk hr1
 have HB1:=zk bb1
 have s1:=bb1.size
 clear hr1 bb1
 gi_wp2_with fail
 have BB2:Below W.heap.size W (w1.alloc (.map #[] 0)):=Xj (zq HB1) (Below.new1 _)
 have J2:=zk (zq HJB _ _ _ (zq H0) BB2)
 have WT:Hid (WtV (w1.alloc (.map #[] 0)) B W.heap.size w1.heap.size (fun _=> []) (.slice av (restsOf P 0).length cv) (restsOf P 0)):=
  ⟨(zq HR1).later (Below.new1 _) (Nat.le_trans hBW s1),s1,fun _=>none,MwV.new w1,fun m=>RstV.nil _ _ _,fun m m' g _ e=>(by cases e),fun m g e=>(by cases e)⟩
 have FD:=zk (Fd.start P)
 have ws:=wsum_nil [] P.length
 have hms:w1.heap.size<(w1.alloc (.map #[] 0)).heap.size:=by simp
 clear BB2 HR1 HB1 H0 hmm k0
 generalize (w1.alloc (.map #[] 0))=W2 at*
 generalize w1.heap.size=mw at*
 gi_loopw [4] (fun v wr=>∃(E:List Int) (next:List RS) (wait:Int→List RS) (a:Option Addr) (c:Nat),v= .slice a next.length c∧Hid (Fd P E next wait)∧Hid (WtV wr B W.heap.size mw wait v next)∧Hid (J E wr)∧next.length+wsum E wait P.length≤480) (fun v wr=>μ wr*1000+lenV v)
 case atStart=>exact⟨[],_,fun _=> [],av,cv,rfl,FD,WT,J2,by omega⟩
 case round=>
  obtain⟨E,next,wait,a,c,rfl,hF,hW,hJE,hM⟩:=hrel
  clear FD WT J2 ws hrl hcv1 hcv2
  by_cases hlt:0<next.length
  ·obtain⟨l,r,rfl⟩:∃l r,next=l++[r]:=⟨next.dropLast,next.getLast (by intro c;rw[c]at hlt;simp at hlt),(List.dropLast_concat_getLast _).symm⟩
   obtain⟨g,cap,u,hv,p1,p2,hg,q0,q1,hsy,hpop⟩:=(zq hW).pop
   injection hv with e1 e2 e3
   subst e1;subst e3
   obtain⟨x,rl⟩:=r
   simp only at q0 q1 hsy
   obtain⟨ux,uc,rfl,-⟩:=id hsy
   obtain⟨hset,hpr,b1,b2⟩:=zq HJ _ _ (zq hJE)
   have hws:=(zq hW).map
   have hrest:=(zq hF).nx (x,rl) (by simp)
   obtain⟨ri,hri,hrl⟩:=hrest.of
   obtain rfl:x=(ri:Int):=hri
   have k2c:wr.cell? ⟨k2,0,none⟩=some (.map (some b)):=by simp[World.cell?,b2]
   have CB:=zk (fun Z (bZ:Below wr.heap.size wr Z)=>behind_l B b E _ rl Z (hset.later bZ hset.lt) (hsy.later (bZ.mono (by omega))) (Nat.le_trans (by omega) bZ.size))
   have CH:=zk (fun Z (bZ:Below wr.heap.size wr Z)=>nhas_l b E (ri:Int) Z (hset.later bZ hset.lt) (by unfold yQ;omega))
   have hll:(l++[((ri:Int),rl)]).length=l.length+1:=by simp
   rw[hll]at e2 hM⊢
   unfold maxLen at p2
   have HP:=zk hpop
   have HS:=zk hset
   have HR:=zk hrest
   have hsl:=hset.lt
   have l2:l.length*2=2*l.length:=by omega
   have hk2:=zJ k2c
   have k2o:∀Z,Below wr.heap.size wr Z→Z.cell? ⟨k2,0,none⟩=some (.map (some b)):=fun Z bZ=>(bZ.cell hk2).trans k2c
   clear hpop hset hrest hpr b1 b2 hsy hll e2
   gi_wp2_with fail
   refine⟨trivial,?_⟩
   refine(callsIn_wide.2 (zq CB _ (Below.new1 _))).mono ?_
   rintro e w3 ⟨v3,rfl,hs3,bb3⟩
   clear CB
   obtain⟨x3,c3,rfl,hs3a,hs3b,-⟩:=id hs3
   unfold maxLen at hs3b
   have hkb:=nkept bb3
   obtain⟨n0,n1,f0,f1⟩:=ncells2 hkb
   have B3:=Xj (Below.new1 (w:=wr) (.cells #[.int .i64 (ri:Int),.slice ux rl.length uc] 168)) bb3
   have s3:wr.heap.size<w3.heap.size:=by have:=bb3.size;simp at this;omega
   have HS3:=zk hs3
   have hkb4:(w3.setCell ⟨wr.heap.size,1,none⟩ (.slice x3 (behE E rl).length c3)).heap[wr.heap.size]? =some (.cells #[.int .i64 (ri:Int),.slice x3 (behE E rl).length c3] 168):=by
    have:=heap_setCell_same w3 wr.heap.size 1 _ _ (.slice x3 (behE E rl).length c3) hkb
    simpa using this
   have B4:Below wr.heap.size wr (w3.setCell ⟨wr.heap.size,1,none⟩ (.slice x3 (behE E rl).length c3)):=B3.setCell (Nat.le_refl _) _
   have s4:wr.heap.size<(w3.setCell ⟨wr.heap.size,1,none⟩ (.slice x3 (behE E rl).length c3)).heap.size:=by simpa using s3
   obtain⟨m0,m1,fm0,fm1⟩:=ncells2 hkb4
   have kk3:=k2o w3 B3
   have kk4:=k2o _ B4
   have HB4:=zk B4
   have HKB:=zk hkb4
   clear hkb B3 hs3 bb3 hkb4 B4
   gi_wp2_with fail
   refine⟨trivial,?_⟩
   refine(callsIn_wide.2 (zq CH _ (zq HB4))).mono ?_
   rintro e w5 ⟨rfl,bb5⟩
   clear CH kk3 kk4 n0 n1 f0 f1 m0 m1 fm0 fm1
   have s5:=bb5.size
   have hkb5:w5.heap[wr.heap.size]? =some (.cells #[.int .i64 (ri:Int),.slice x3 (behE E rl).length c3] 168):=(bb5.block _ s4).trans (zq HKB)
   obtain⟨m0,m1,fm0,fm1⟩:=ncells2 hkb5
   have B5:=zk (Xj (zq HB4) bb5)
   have J5:=zk (zq HJB _ _ _ (zq hJE) ((zq B5).mono (by omega)))
   have W5:=zk ((zq HP).later (zq B5) (by omega))
   have S5:=zk ((zq HS).later (zq B5) hsl)
   have mu5:=zq HM _ _ (zq S5)
   have mur:=zq HM _ _ (zq HS)
   have hs5:W.heap.size≤w5.heap.size:=by omega
   have HK5:=zk hkb5
   have Y3:=zk ((zq HS3).later (((Below.refl wr.heap.size w3).setCell (p:=⟨wr.heap.size,1,none⟩) (Nat.le_refl _) (.slice x3 (behE E rl).length c3)).trans (bb5.mono (by omega))|>.mono (by omega):Below B w3 w5))
   clear HP hJE HB4 HKB HS3 hkb5 bb5 k2o k2c hW q0 q1
   by_cases hin:(ri:Int)∈E
   ·rw[decide_eq_true hin]
    have F5:=zk ((zq hF).known hin)
    clear hin
    gi_wp2_with fail
    go_roundw
    case rel=>exact⟨E,l,wait,some ⟨g,0,none⟩,c,rfl,F5,W5,J5,by omega⟩
    case measure=>rw[mu5,mur];simp[lenV]
   ·rw[decide_eq_false hin]
    cases hbe:behE E rl with
    |nil=>
     rw[hbe]at m1 HK5
     obtain⟨fn,tmps,assign,body,hy,hR⟩:=zq HY _ _ _ (zq J5) hs5 ⟨hin,(by omega:(0:Int)≤(ri:Int)),(by omega:(ri:Int)<60)⟩
     have F5:=zk ((zq hF).put hbe)
     have wp:=wsum_put (wait:=wait) hin P.length
     have up:=unk_put hin P.length
     rw[if_pos hrl]at wp up
     have hk5:wr.heap.size<w5.heap.size:=by omega
     simp only[List.length_nil]at m1 HK5
     clear hbe HY hin
     gi_wp2_with fail
     refine hR.mono ?_
     rintro e w6 ⟨rfl,hJ6,hbo⟩
     clear hR hy
     have hk6:w6.heap[wr.heap.size]? =some (.cells #[.int .i64 (ri:Int),.slice x3 0 c3] 168):=(hbo.block _ hk5 (fun e=>by injection e with e;omega)).trans (zq HK5)
     obtain⟨z0,z1,-,-⟩:=ncells2 hk6
     have s6:=hbo.size
     have W6:=(zq W5).bo hbo hbW hBb (by omega)
     obtain⟨u6,hlk,v7,w7,hap,W7,b7⟩:=W6.come (ri:Int) (by omega) (by omega) (by omega)
     obtain⟨a7,c7,rfl,-⟩:=W7.1.form
     rw[List.length_append]at W7 hap
     have J7:=zk (zq HJB _ _ _ hJ6 b7)
     have S7:=(zq HJ _ _ (zq J7)).1
     have mu7:=zq HM _ _ S7
     have HW7:=zk W7
     clear m0 m1 fm0 fm1 W5 J5 S5 W6 W7 b7 S7 hJ6 hbo hk6
     gi_wp2_with (gi_at_builtin;refine appIn_run rfl _ _ 164 164 rfl rfl _ _ rfl rfl hap ?_)
     go_roundw
     case rel=>exact⟨E++[(ri:Int)],l++wait (ri:Int),wait,a7,c7,by rw[List.length_append],F5,HW7,J7,by rw[List.length_append];omega⟩
     case measure=>rw[mu7,mur];simp[lenV];omega
    |cons s t=>
     rw[hbe]at m1 HK5 Y3
     obtain⟨s1,s2,s3'⟩:=s
     obtain⟨a3,c3',e3,-,-,h3⟩:=zq Y3
     injection e3 with e4 e5 e6
     subst e4;subst e6
     obtain⟨hf,g3,off3,xx,nn,kk,rfl,hg3,r0,r1,r2⟩:=h3 0 (s1,s2,s3') rfl
     simp only[Nat.mul_zero,Nat.add_zero]at r0 r1 r2
     simp only[List.length_cons]at m1 HK5 hs3a
     clear h3 HY hin e5
     by_cases h2:s1=2
     ·subst h2
      have F5:=zk ((zq hF).wait hbe rfl)
      have hE:s3'∉E:=fun c=>by
       have:=beh_head hbe
       rw[inE_iff.2 ⟨rfl,c⟩]at this;cases this
      have hmem:((2:Int),s2,s3')∈rl:=by
       obtain⟨k,hk,e,-⟩:=beh_drop E rl
       exact List.mem_of_mem_drop (i:=k) (by rw[←e,hbe];exact List.mem_cons_self)
      have hrange:=(zq HR).non (zq HOK) hmem rfl
      obtain⟨m3,hm3⟩:∃m3:Nat,s3'=(m3:Int):=⟨s3'.toNat,by simp only at hrange;omega⟩
      subst hm3
      have hmP:m3<P.length:=by have:=hrange.2;simp only at this;omega
      have wst:=wsum_set (wait:=wait) (l:=wait (m3:Int)++[((ri:Int),behE E rl)]) hE P.length
      rw[if_pos hmP,if_pos hmP,List.length_append]at wst
      have wle:=wsum_le (wait:=wait) hE hmP
      simp only[List.length_cons,List.length_nil]at wst
      obtain⟨x6,hlk,v7,w6,w7,hap,hup,W7,b7⟩:=(zq W5).put (u:= .slice (some ⟨g3,off3,none⟩) (t.length+1) c3) (m3:Int) ((ri:Int),behE E rl) hf (by rw[hbe];exact zq Y3) (by omega) hs5 (by omega)
      have J7:=zk (zq HJB _ _ _ (zq J5) b7)
      have S7:=(zq HJ _ _ (zq J7)).1
      have mu7:=zq HM _ _ S7
      have HW7:=zk W7
      clear W5 J5 S5 W7 b7 S7 hmem hrange hbe hE Y3
      gi_wp2_with (gi_at_builtin;refine appIn_run rfl _ _ 164 164 rfl rfl _ _ rfl rfl hap ?_)
      go_roundw
      case rel=>exact⟨E,l,setW wait (m3:Int) (wait (m3:Int)++[((ri:Int),behE E rl)]),some ⟨g,0,none⟩,c,rfl,F5,HW7,J7,by omega⟩
      case measure=>rw[mu7,mur];simp[lenV]
     ·have F5:=zk ((zq hF).stop hbe h2)
      have bk:(s1==2)=false:=beq_eq_false_iff_ne.2 h2
      clear h2 hbe Y3
      gi_wp2_with fail
      go_roundw
      case rel=>exact⟨E,l,wait,some ⟨g,0,none⟩,c,rfl,F5,W5,J5,by omega⟩
      case measure=>rw[mu5,mur];simp[lenV]
  ·obtain rfl:next=[]:=List.eq_nil_of_length_eq_zero (by omega)
   have FIN:=zk (zq hF).done
   gi_wp2_with fail
   refine bodyPost_end (results_none rfl _ _ _) rfl ?_
   exact⟨⟨_,rfl⟩,E,zq FIN,zq hJE⟩
structure EmI (w:World) (B:Nat) (v:Value) (P:List PRD) (pre:List Int) (W:World):Prop where
 set:SetV W w.heap.size pre
 prs:PrL W B v P
 bx:W.heap[w.heap.size+1]? =some (boxS w.heap.size)
 b1:W.heap[w.heap.size+2]? =some (boxP v)
 b2:W.heap[w.heap.size+3]? =some (boxS w.heap.size)
 bel:Below w.heap.size w W
 num:unk pre 60+pre.length=60
theorem EmI.below {w W W':World} {B:Nat} {v:Value} {P:List PRD} {pre:List Int} (h:EmI w B v P pre W) (k:Below (w.heap.size+4) W W') (hB:B≤w.heap.size):EmI w B v P pre W':=
 ⟨h.set.later k (by omega),h.prs.later (k.mono (by omega)),(k.block _ (by omega)).trans h.bx,(k.block _ (by omega)).trans h.b1,(k.block _ (by omega)).trans h.b2,h.bel.trans (k.mono (by omega)),h.num⟩
theorem EmI.put {w W W':World} {B:Nat} {v:Value} {P:List PRD} {pre:List Int} {x:Int} (h:EmI w B v P pre W) (hs:SetV W' w.heap.size (pre++[x])) (k:Bo w.heap.size W W') (hB:B≤w.heap.size) (hW:w.heap.size+4≤W.heap.size) (hx:x∉pre∧0≤x∧x<60):EmI w B v P (pre++[x]) W':=by
 have kb:∀g,g<W.heap.size→g≠w.heap.size→W'.heap[g]? =W.heap[g]? :=fun g h1 h2=>k.block g h1 (fun e=>h2 (by injection e))
 have kB:Below w.heap.size W W':=⟨k.os,k.tape,k.output,k.size,fun i hi=>kb i (by omega) (by omega)⟩
 obtain⟨n,rfl⟩:∃n:Nat,x=(n:Int):=⟨x.toNat,by omega⟩
 have:=unk_put hx.1 60
 rw[if_pos (by omega)]at this
 exact⟨hs,h.prs.later (kB.mono hB),(kb _ (by omega) (by omega)).trans h.bx,(kb _ (by omega) (by omega)).trans h.b1,(kb _ (by omega) (by omega)).trans h.b2,h.bel.trans kB,by have:=h.num;rw[List.length_append];simp;omega⟩
attribute [local go_sem] Oper.semAt_some
theorem emptyOf_l (B:Nat) (v:Value) (P:List PRD) (w:World) (h:PrL w B v P) (hB:B≤w.heap.size) (h60:P.length≤60) (h8:∀p∈P,p.1.length≤8) (ok:okN P):
  Calls Tryz.prog 50 #[v] w fun e w'=>∃b E,e= .returned (.map (some b))∧SetV w' b E∧(∀x,x∈E↔isN P x)∧w.heap.size≤b∧Below w.heap.size w w':=by
 obtain⟨a,c,rfl,-⟩:=id h
 have hmm:= @run_makeMap Tryz.prog
 have hx:∀args w,(callFunc 125 args).run Tryz.prog w= .ok (.enter 125 args) w:=enters_of Tryz.func125 (by kernel_rfl) rfl
 have CF:=zk (fun W=>found_l a P.length c w.heap.size W)
 have HP:=zk h
 have H8:=zk h8
 have HK:=zk ok
 clear h h8 ok
 refine(callsIn_wide (n:=8)).1 ?_
 refine callsIn_of_wp_marks Tryz.func50 rfl trivial ?_ rfl
 simp only[Tryz.ntmps50,List.size_toArray,List.length_cons,List.length_nil,Nat.reduceAdd,Nat.reduceSub,Array.replicate_succ,Array.replicate_zero,List.push_toArray,List.append_toArray,List.nil_append,List.cons_append]
 gi_wp2_with fail
 refine⟨trivial,?_⟩
 refine(callsIn_wide.2 (zq CF _)).mono ?_
 rintro e w1 ⟨rfl,hw1⟩
 subst hw1
 clear CF
 have I0:EmI w B (.slice a P.length c) P [] ((((w.alloc (.map #[] 0)).alloc (boxS w.heap.size)).alloc (boxP (.slice a P.length c))).alloc (boxS w.heap.size)):=by
  have e1:∀W:World,∀o:Obj,∀k,k=W.heap.size→(W.alloc o).heap[k]? =some o:=fun W o k hk=>by subst hk;exact heap_alloc_new W o
  have e2:∀W:World,∀o o':Obj,∀k,W.heap[k]? =some o'→(W.alloc o).heap[k]? =some o':=fun W o o' k hk=>((Below.new1 o).block k (Array.getElem?_eq_some_iff.1 hk).1).trans hk
  have bb:Below w.heap.size w ((((w.alloc (.map #[] 0)).alloc (boxS w.heap.size)).alloc (boxP (.slice a P.length c))).alloc (boxS w.heap.size)):=(((Below.new1 _).alloc (by simp) _).alloc (by simp;omega) _).alloc (by simp;omega) _
  refine⟨((SetV.new w).keep ?_),(zq HP).later (bb.mono hB),e2 _ _ _ _ (e2 _ _ _ _ (e1 _ _ _ (by simp))),e2 _ _ _ _ (e1 _ _ _ (by simp)),e1 _ _ _ (by simp),bb,rfl⟩
  rw[e2 _ _ _ _ (e2 _ _ _ _ (e2 _ (boxS w.heap.size) _ _ (heap_alloc_new w _)))]
  exact(heap_alloc_new w _).symm
 have sz:((((w.alloc (.map #[] 0)).alloc (boxS w.heap.size)).alloc (boxP (.slice a P.length c))).alloc (boxS w.heap.size)).heap.size=w.heap.size+4:=by simp
 gi_wp2_with fail
 generalize ((((w.alloc (.map #[] 0)).alloc (boxS w.heap.size)).alloc (boxP (.slice a P.length c))).alloc (boxS w.heap.size))=Z at*
 refine rangeMore (n:=8) (by omega) (gf:=125) (cs:= #[.pointer (some ⟨w.heap.size+2,0,none⟩),.pointer (some ⟨w.heap.size+3,0,none⟩)]) rfl hx w.heap.size (by rw[sz];omega) (EmI w B (.slice a P.length c) P)
  (fun pre x=>x∉pre∧0≤x∧x<60) (fun xs=>∀x,x∈xs↔isN P x) (fun pre W W' hi k=>hi.below (by rw[sz]at k;exact k) hB) I0
  (fun x=>{tmps:= #[.slice a P.length c,undef,.map none,.pointer (some ⟨w.heap.size+1,0,none⟩),.int .i64 x,.map (some w.heap.size),.slice a P.length c,.map (some w.heap.size),foundF (w.heap.size+2) (w.heap.size+3),.int .i64 x,undef,undef,undef,undef],defers:=[]})
  ?assign ?body ?iter ?done
 case assign=>
  intro l x W K hK
  gi_wp2
  exact hK
 case body=>
  intro l pre x W hI hx1 hW
  rw[sz]at hW
  have hlen:pre.length<1000000:=by have:=hI.num;omega
  have CP:=zk (nput_l w.heap.size pre x W hI.set (by unfold yQ;omega) hlen)
  have q0:W.cell? ⟨w.heap.size+1,0,none⟩=some (.map (some w.heap.size)):=by simp[World.cell?,hI.bx]
  have HI:=zk hI
  clear hI I0
  gi_wp2_with fail
  refine⟨trivial,?_⟩
  refine(CallsIn.inRound l (callsIn_wide.2 (zq CP))).mono ?_
  rintro e w2 ⟨rfl,hs2,hg2⟩
  gi_wp2_with fail
  exact⟨hg2,(zq HI).put hs2 hg2 hB hW hx1⟩
 case iter=>
  intro lr W J hs hb hJI hJb hY h0
  rw[sz]at hs
  refine found_iter 7 (by omega) lr (w.heap.size+2) (w.heap.size+3) w.heap.size B (.slice a P.length c) P W J (fun pre W1 hj=> ?_) hJb (fun pre x W1 h1 h2 h3=>hY pre x W1 h1 h2 h3) hB (by omega) h60 (zq H8) (zq HK) h0|>.mono ?_
  ·have:=hJI _ _ hj
   exact⟨this.set,this.prs,this.b1,this.b2⟩
  ·rintro e W' ⟨hv,E,hE,hj⟩
   exact⟨hv,E,hE,hj⟩
 case done=>
  intro xs W hE hI hD
  have q0:W.cell? ⟨w.heap.size+1,0,none⟩=some (.map (some w.heap.size)):=by simp[World.cell?,hI.bx]
  have HI:=zk hI
  clear hI I0
  gi_wp2
  refine⟨by simp,.inl ⟨_,_,rfl,run_takeDeferred hD,?_⟩⟩
  have hput:Below (w.heap.size+4) W (W.putObj Z.heap.size (.deferred none)):=(Below.refl _ W).grown (grownBy_putObj' W _ _) (by have:=(Array.getElem?_eq_some_iff.1 hD).1;omega) (fun k e=>by cases e;omega)
  have HF:=(zq HI).below hput hB
  exact⟨_,results_tmp rfl _ _ _,w.heap.size,xs,rfl,HF.set,hE,Nat.le_refl _,HF.bel⟩
abbrev boxY (v:Value):Obj:= .cells #[v] 44
abbrev leftsF (k1 k2:Nat):Value:= .func (.func 82) #[] #[.pointer (some ⟨k2,0,none⟩),.pointer (some ⟨k1,0,none⟩)]
theorem lefts_l (b:Nat) (a:Option Addr) (m c:Nat) (w:World):
  Calls Tryz.prog 51 #[.map (some b),.slice a m c] w fun e w'=>e= .returned (leftsF w.heap.size (w.heap.size+1))∧w'=(w.alloc (boxS b)).alloc (boxY (.slice a m c)):=by
 have hmf:∀(fn:Fn) (first cap:Array Value) (w:World),(Instr.makeFunc fn first cap).run Tryz.prog w= .ok (.func fn first cap) w:=fun _ _ _ _=>rfl
 go_enter Tryz.func51,Tryz.ntmps51
 go_wp2
 go_ret
 exact⟨rfl,rfl⟩
theorem lef_cons {E:List Int} {l:List SY} {k:Nat} {s:SY} (h:l[k]? =some s):lefE E (l.drop k)=if s.1=2 then s.2.2::(if s.2.2∈E then lefE E (l.drop (k+1))else [])else []:=by
 obtain⟨hk,e⟩:=List.getElem?_eq_some_iff.1 h
 rw[List.drop_eq_getElem_cons hk,e]
 rfl
theorem lef_sub {E:List Int}:∀{l:List SY} {x:Int},x∈lefE E l→∃s∈l,s.1=2∧s.2.2=x:=by
 intro l
 induction l with
 |nil=>intro x h;cases h
 |cons s l ih=>
  intro x h
  unfold lefE at h
  split at h
  ·rename_i h2
   rcases List.mem_cons.1 h with h|h
   ·exact⟨s,List.mem_cons_self,h2,h.symm⟩
   ·split at h
    ·obtain⟨t,ht,h3⟩:=ih h
     exact⟨t,List.mem_cons_of_mem _ ht,h3⟩
    ·cases h
  ·cases h
theorem lef_len {E:List Int}:∀(l:List SY),(lefE E l).length≤l.length:=by
 intro l
 induction l with
 |nil=>exact Nat.le_refl _
 |cons s l ih=>
  unfold lefE
  split
  ·simp only[List.length_cons]
   split
   ·omega
   ·simp
  ·simp
attribute [local go_sem] Oper.semAt_some
theorem lefts_iter (n:Nat) (hn:4≤n) (lr k1 k2 b B b2:Nat) (E:List Int) (v:Value) (l:List SY) (W:World) (J:List Int→World→Prop)
  (hJ:∀pre W1,J pre W1→SetV W1 b E∧SyL W1 B v l∧W1.heap[k1]? =some (boxS b)∧W1.heap[k2]? =some (boxY v))
  (hJb:∀pre W1 W2,J pre W1→Below W.heap.size W1 W2→J pre W2)
  (hY:∀pre x W1,J pre W1→W.heap.size≤W1.heap.size→(∃rest,pre++x::rest=lefE E l)→YieldAt Fence.wide (n-1) Tryz.prog lr #[.int .i64 x] W1 fun e W'=>e= .returned (.bool true)∧J (pre++[x]) W'∧Bo b2 W1 W')
  (hb2:b2<W.heap.size) (h0:J [] W):
  CallsIn Fence.wide n Tryz.prog 82 #[.func (.yield lr) #[] #[],.pointer (some ⟨k2,0,none⟩),.pointer (some ⟨k1,0,none⟩)] W fun e W'=>(∃v,e= .returned v)∧J (lefE E l) W':=by
 have h1n:1≤n:=by omega
 have h1m:1≤n-1:=by omega
 obtain⟨-,hs0,c1,c2⟩:=hJ _ _ h0
 obtain⟨a,c,rfl,hc1,hc2,-⟩:=id hs0
 unfold maxLen at hc2
 have q0:W.cell? ⟨k2,0,none⟩=some (.slice a l.length c):=by simp[World.cell?,c2]
 have HJ:=zk hJ
 have HJB:=zk hJb
 have HY:=zk hY
 have H0:=zk h0
 clear hJ hJb hY c1 c2 hs0 h0
 refine callsIn_of_wp Tryz.func82 rfl trivial ?_ rfl
 simp only[Tryz.ntmps82,List.size_toArray,List.length_cons,List.length_nil,Nat.reduceAdd,Nat.reduceSub,Array.replicate_succ,Array.replicate_zero,List.push_toArray,List.append_toArray,List.nil_append,List.cons_append]
 gi_wp2_with fail
 gi_loopw [8] (fun i wr=>∃(k:Nat) (pre:List Int),k≤l.length∧i= .int .i64 (k:Int)∧Hid (lefE E l=pre++lefE E (l.drop k))∧Hid (J pre wr)∧W.heap.size≤wr.heap.size) (fun i _=>l.length-(intOf i).toNat)
 case atStart=>exact⟨0,[],Nat.zero_le _,rfl,rfl,H0,Nat.le_refl _⟩
 case round=>
  obtain⟨k,pre,hk,rfl,hO,hJ,hs⟩:=hrel
  clear H0 q0
  by_cases hlt:k<l.length
  ·obtain⟨hset,hsy,c1,c2⟩:=zq HJ _ _ (zq hJ)
   obtain⟨a',c',e,-,-,h3⟩:=hsy
   injection e with e1 e2 e3
   subst e1;subst e3
   have hsk:l[k]? =some l[k]:=by simp[hlt]
   obtain⟨hf,g,off,x,n',kk,rfl,hg,p0,p1,p2⟩:=h3 k l[k] hsk
   have ST:=zk (lef_cons (E:=E) hsk)
   clear h3 hsk e2 hset c1 c2
   generalize l[k]=s at*
   obtain⟨s1,s2,s3⟩:=s
   simp only at p0 p2 hf ST
   have k3:k*3=3*k:=by omega
   by_cases h2:s1=2
   ·subst h2
    have hpre:∃rest,pre++s3::rest=lefE E l:=⟨if s3∈E then lefE E (l.drop (k+1))else [],by rw[zq hO,zq ST];simp⟩
    have J1:=zq HJB _ _ (wr.alloc (.cells #[.int .i64 2,.slice x n' kk,.int .i64 s3] 43)) (zq hJ) ((Below.new1 _).mono hs)
    obtain⟨fn,tmps,assign,body,hy,hR⟩:=zq HY _ _ _ J1 (Nat.le_trans hs (by simp)) hpre
    clear J1 hpre HY
    gi_wp2_with fail
    refine hR.mono ?_
    rintro e w6 ⟨rfl,hJ6,hbo⟩
    clear hR hy
    have hk6:w6.heap[wr.heap.size]? =some (.cells #[.int .i64 2,.slice x n' kk,.int .i64 s3] 43):=(hbo.block _ (by simp) (fun e=>by injection e with e;omega)).trans (heap_alloc_new wr _)
    have z2:w6.cell? ⟨wr.heap.size,2,none⟩=some (.int .i64 s3):=by simp[World.cell?,hk6]
    have hs6:W.heap.size≤w6.heap.size:=by have:=hbo.size;simp at this;omega
    obtain⟨hset6,-,c16,-⟩:=zq HJ _ _ hJ6
    have z1:w6.cell? ⟨k1,0,none⟩=some (.map (some b)):=by simp[World.cell?,c16]
    have CH:=zk (nhas_l b E s3 w6 hset6 hf)
    have J6:=zk hJ6
    clear hJ6 hbo hk6 hset6 c16 hJ
    by_cases hin:s3∈E
    ·rw[decide_eq_true hin]at CH
     have NX:Hid (lefE E l=(pre++[s3])++lefE E (l.drop (k+1))):=by
      show _=_
      rw[zq hO,zq ST];simp[hin]
     clear hin ST hO
     gi_wp2_with fail
     refine⟨trivial,?_⟩
     refine(callsIn_wide.2 (zq CH)).mono ?_
     rintro e w7 ⟨rfl,b7⟩
     have J7:=zk (zq HJB _ _ _ (zq J6) (b7.mono hs6))
     have s7:=b7.size
     clear CH b7 J6
     gi_wp2_with fail
     go_roundw
     case rel=>exact⟨k+1,pre++[s3],by omega,by simp,NX,J7,by omega⟩
     case measure=>simp[intOf];omega
    ·rw[decide_eq_false hin]at CH
     have NX:Hid (lefE E l=pre++[s3]):=by
      show _=_
      rw[zq hO,zq ST];simp[hin]
     clear hin ST hO
     gi_wp2_with fail
     refine⟨trivial,?_⟩
     refine(callsIn_wide.2 (zq CH)).mono ?_
     rintro e w7 ⟨rfl,b7⟩
     have J7:=zk (zq HJB _ _ _ (zq J6) (b7.mono hs6))
     clear CH b7 J6
     gi_wp2_with fail
     refine bodyPost_ret (results_none rfl _ _ _) rfl ?_
     exact⟨⟨_,rfl⟩,by rw[zq NX];exact zq J7⟩
   ·have bk:(s1 !=2)=true:=by simpa using h2
    have NX:Hid (lefE E l=pre):=by
     show _=_
     rw[zq hO,zq ST,if_neg h2,List.append_nil]
    have J1:=zk (zq HJB _ _ (wr.alloc (.cells #[.int .i64 s1,.slice x n' kk,.int .i64 s3] 43)) (zq hJ) ((Below.new1 _).mono hs))
    clear h2 ST hO hJ HY
    gi_wp2_with fail
    refine⟨fun f hf=>(by cases hf),?_⟩
    gi_wp2_with fail
    refine⟨trivial,?_⟩
    gi_wp2_with fail
    refine bodyPost_ret (results_none rfl _ _ _) rfl ?_
    exact⟨⟨_,rfl⟩,by rw[zq NX];exact zq J1⟩
  ·obtain rfl:k=l.length:=by omega
   have NX:Hid (lefE E l=pre):=by
    show _=_
    rw[zq hO,List.drop_eq_nil_of_le (Nat.le_refl _)]
    exact List.append_nil _
   clear hO HY
   gi_wp2_with fail
   refine bodyPost_end (results_none rfl _ _ _) rfl ?_
   exact⟨⟨_,rfl⟩,by rw[zq NX];exact zq hJ⟩
abbrev markD (D:Nat):Deferred:={target:= .collected D,args:= #[]}
def Marks (base:Nat) (W:World):List Deferred→Prop
 | []=>True
 |d::ds=>∃D,d=markD D∧base≤D∧W.heap[D]? =some (.deferred (some []))∧(∀D',markD D'∈ds→D'≠D)∧Marks base W ds
theorem Marks.keep {base:Nat} {W X:World}:∀(ds:List Deferred),Marks base W ds→(∀D,markD D∈ds→W.heap[D]? =some (.deferred (some []))→X.heap[D]? =some (.deferred (some [])))→Marks base X ds:=by
 intro ds
 induction ds with
 |nil=>intro _ _;trivial
 |cons d ds ih=>
  intro h k
  obtain⟨D,rfl,h1,h2,h3,h4⟩:=h
  exact⟨D,rfl,h1,k D List.mem_cons_self h2,h3,ih h4 fun D' hD'=>k D' (List.mem_cons_of_mem _ hD')⟩
theorem Marks.lt {base:Nat} {W:World}:∀(ds:List Deferred),Marks base W ds→∀D,markD D∈ds→base≤D∧W.heap[D]? =some (.deferred (some [])):=by
 intro ds
 induction ds with
 |nil=>intro _ D hD;cases hD
 |cons d ds ih=>
  intro h D hD
  obtain⟨D',rfl,h1,h2,h3,h4⟩:=h
  rcases List.mem_cons.1 hD with e|hD
  ·have:D=D':=by simpa [markD] using e
   subst this
   exact⟨h1,h2⟩
  ·exact ih h4 D hD
theorem Marks.later {base:Nat} {W X:World} {ds:List Deferred} (h:Marks base W ds) (k:Below W.heap.size W X):Marks base X ds:=
 h.keep ds fun D _ hD=>(k.block D (Array.getElem?_eq_some_iff.1 hD).1).trans hD
theorem Marks.leave {F:Fence} {n:Nat} {P:Program} {fn:Func} {tmps:Array Value} {R:Ending→World→Prop} {base:Nat}:∀(ds:List Deferred) (W:World),Marks base W ds→base≤W.heap.size→
  (∀X,Below base W X→(∀(k:Nat) (o:Obj),W.heap[k]? =some o→(∀x,o≠Obj.deferred x)→X.heap[k]? =some o)→LeavesIn F n P fn tmps R [] .returning X)→LeavesInM F n P fn tmps R ds .returning W:=by
 intro ds
 induction ds with
 |nil=>intro W _ _ h;exact h W (Below.refl _ _) fun _ _ h _=>h
 |cons d ds ih=>
  intro W hM hb h
  obtain⟨D,rfl,h1,h2,h3,h4⟩:=hM
  have hg:=grownBy_putObj' W D (.deferred none)
  have hlt:=(Array.getElem?_eq_some_iff.1 h2).1
  refine⟨by simp,.inl ⟨D,_,rfl,run_takeDeferred h2,ih _ (h4.keep ds fun D' hD' hW=>(World.putObj_heap_other (h3 D' hD')).trans hW) (Nat.le_trans hb hg.size) fun X bX kX=>h X ?_ fun k o hk hne=>kX k o ((World.putObj_heap_other (fun e=> ?_)).trans hk) hne⟩⟩
  ·exact((Below.refl base W).grown hg hb (fun k e=>by cases e;exact h1)).trans bX
  ·subst e;rw[h2]at hk;injection hk with hk;exact hne _ hk.symm
end Go.Proofs.YtcblkmlcbedomaaGreatDoor.Nl
